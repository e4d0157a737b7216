"""How the steps of a text are done under one laying."""

from lastkind.memory import Memory
from lastkind.steps import kind_of, spans_of
from lastkind.words import size_of

# The first names of heaps point so far apart that no byte lies in two heaps.
FAR = 100


def plan_of(steps):
    """What each step does, the same under all layings: tuples (word, kind, spans)."""
    return [(step[0], kind_of(step), spans_of(step)) for step in steps]


def spots_of(names, laying):
    """The number of the byte to which each name points."""
    spots = {}
    for k, name in enumerate(names):
        if laying[k] is None:
            spots[name] = FAR * k
        else:
            first, distance = laying[k]
            spots[name] = spots[first] + distance
    return spots


def owners_of(places, spots):
    """From each byte of a place to the first byte and the kind of that place."""
    owners = {}
    for name, kind in places:
        for k in range(size_of(kind)):
            owners[spots[name] + k] = (spots[name], kind)
    return owners


def run_plan(plan, owners, spots):
    """Does the steps up to the first unlawful one: (memory, its index, reason), or None for both."""
    memory = Memory(owners)
    for index, (word, kind, spans) in enumerate(plan):
        reason = do_step(memory, index, word, kind, rows_of(spans, spots))
        if reason is not None:
            return memory, index, reason
    return memory, None, None


def rows_of(spans, spots):
    """The numbers of the bytes of each span, in lists."""
    return [list(range(spots[name] + first, spots[name] + first + many)) for name, first, many in spans]


def do_step(memory, index, word, kind, rows):
    """Does one step, which uses these rows of bytes; the reason if it is unlawful."""
    if word == "read":
        return memory.read_thing(index, kind, rows[0])
    if word == "write":
        return memory.write_thing(index, kind, rows[0])
    if word == "copy":
        return memory.copy_bytes(index, rows[0], rows[1])
    if word == "blank":
        return memory.blank_bytes(rows[0])
    return None
