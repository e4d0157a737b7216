"""Layings: which names of a text touch, and where they point."""

from lastkind.heaps import gaps_of, hangs_together, heaps_of, offsets_in, offsets_of
from lastkind.stepping import owners_of, plan_of, run_plan, spots_of
from lastkind.words import is_whole


def layings(text, *, lawful=False):
    """The list of all layings of a text, in order; only the lawful ones if lawful is True."""
    if lawful:
        return [laying for laying, _ in lawful_runs(text)]
    return all_layings(text)


def is_laying(text, thing):
    """Whether any value is a laying of the text.

    This looks at the one value alone: there may be thousands of layings.
    """
    names = text.names()
    if not isinstance(thing, tuple) or len(thing) != len(names):
        return False
    heaps = {}
    for name, entry in zip(names, thing):
        if entry is None:
            heaps[name] = {name: 0}
        elif name in text.pointers and is_entry(entry) and entry[0] in heaps:
            heaps[entry[0]][name] = entry[1]
        else:
            return False
    gaps = gaps_of(offsets_of(text))
    return all([hangs_together(heaps[first], gaps) for first in heaps])


def is_entry(thing):
    """Whether any value is a tuple of a string and an integer."""
    if not isinstance(thing, tuple) or len(thing) != 2:
        return False
    return isinstance(thing[0], str) and is_whole(thing[1])


def lawful_runs(text):
    """The lawful layings, in order: tuples of each one and the memory after all steps."""
    plan = plan_of(text.steps)
    runs = []
    for laying in all_layings(text):
        spots = spots_of(text.names(), laying)
        memory, index, _ = run_plan(plan, owners_of(text.places, spots), spots)
        if index is None:
            runs.append((laying, memory))
    return runs


def all_layings(text):
    """The list of all layings of a text, in order."""
    return layings_over(text, text.steps)


def layings_over(text, steps):
    """The list of all layings, in order, of a text with these steps, perhaps too many for one text."""
    ways = spread(text.names(), text.pointers, gaps_of(offsets_in(text, steps)))
    return sorted([tuple([way[name] for name in text.names()]) for way in ways], key=rank)


def spread(names, pointers, gaps):
    """All ways in which these names may lie: dicts from each name to its entry in a laying.

    The places stand first among the names, and no heap contains two. So only pointers lie in a heap
    behind its first name.
    """
    if not names:
        return [{}]
    first = names[0]
    ways = []
    for heap in heaps_of(first, [name for name in names[1:] if name in pointers], gaps):
        entries = {name: (first, heap[name]) for name in heap}
        entries[first] = None
        for others in spread([name for name in names if name not in heap], pointers, gaps):
            ways.append({**entries, **others})
    return ways


def rank(laying):
    """What layings are ordered by."""
    entries = [entry for entry in laying if entry is not None]
    total = sum([abs(distance) for _, distance in entries])
    return len(entries), total, tuple([() if entry is None else entry for entry in laying])
