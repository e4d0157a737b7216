"""What nobody sees: which steps are tied by what is seen, and which steps are dead."""

from lastkind.marks import mark_of, marks_of, shifted, without
from lastkind.orders import pairs_around
from lastkind.pairs import needs, pairs_of
from lastkind.searching import least_layings
from lastkind.stepping import rows_of
from lastkind.steps import WRITING
from lastkind.texts import Text


def tied(text):
    """The sorted list of the tied pairs."""
    return tied_among(text, pairs_of(text))


def drifts(text, order):
    """Whether an order, any value, keeps each needed and each tied pair; NoOrder if it is none."""
    around = pairs_around(text, order)
    needed = needs(text)
    return not any([pair in needed for pair in around]) and tied_among(text, around) == []


def dead(text):
    """The ascending list of the indexes of the dead steps."""
    writing = [k for k, step in enumerate(text.steps) if step[0] in WRITING]
    least = least_layings(text, writing, alive_under)
    return [k for k in writing if k not in least]


def shortened(text):
    """The text without its last dead step, and so on with the new text, until no step is dead."""
    found = dead(text)
    while found:
        last = found[-1]
        text = Text(text.places, text.pointers, text.steps[:last] + text.steps[last + 1:])
        found = dead(text)
    return text


def tied_among(text, pairs):
    """Those of these pairs that are tied."""
    least = least_layings(text, pairs, tied_under)
    return [pair for pair in pairs if pair in least]


def tied_under(plan, owners, spots, pairs):
    """Those of these pairs that are tied under one laying, if it is lawful."""
    sights = sights_of(plan, owners, spots)
    return [(i, j) for i, j in pairs if are_tied(sights, i, j)]


def alive_under(plan, owners, spots, indexes):
    """Those of these steps of which a byte that they write is seen under one laying, if it is lawful."""
    sights = sights_of(plan, owners, spots)
    return [k for k in indexes if sights[k][2] != 0]


def sights_of(plan, owners, spots):
    """For each step the marks of the bytes that it sees, that it writes, and that it writes and that are seen.

    A byte that a step writes is seen if a later step sees it, and no step writes it before that one.
    The steps are gone through from the last one on: the end sees all bytes.
    """
    sights = []
    live = -1
    for (word, _, spans), (used, written) in reversed(list(zip(plan, marks_of(plan, spots)))):
        lasting = written & live
        if word == "read":
            seen = used
        elif word == "copy":
            seen = seen_by_copy(spans, lasting, owners, spots)
        else:
            seen = 0
        live = without(live, written) | seen
        sights.append((seen, written, lasting))
    return sights[::-1]


def seen_by_copy(spans, lasting, owners, spots):
    """The mark of the bytes that a copy sees, if these are the bytes of its target that are seen."""
    target, source = rows_of(spans, spots)
    if any([byte in owners for byte in target]):
        return mark_of(spans[1], spots)
    return shifted(lasting, source[0] - target[0])


def are_tied(sights, i, j):
    """Whether the step i and the later step j are tied at some byte."""
    seen, written, _ = sights[i]
    later_seen, later_written, lasting = sights[j]
    if seen & later_written or written & later_seen:
        return True
    both = written & lasting
    for k in range(i + 1, j):
        both = without(both, sights[k][0])
    return both != 0
