"""Results: which values the steps of a run use, and what a byte bears, as they are told."""

from lastkind.memory import FIRST


def worths_of(steps, memory):
    """From each write and each tell among the steps that were done to its value."""
    known = {}
    worths = {}
    for index, step in enumerate(steps):
        if step[0] == "read":
            source = memory.sources[index]
            known[step[1]] = first_thing(memory.asks, index) if source == FIRST else worths[source]
        elif step[0] in ("write", "tell"):
            worths[index] = known[step[-1]] if isinstance(step[-1], str) else step[-1]
    return worths


def told_values(steps, worths):
    """The list of the values that are told."""
    return [worths[index] for index, step in enumerate(steps) if step[0] == "tell"]


def first_thing(asks, index):
    """The thing that came in for which the ask with this index is; also its value."""
    return ("first", asks.earliest(index))


def load_told(memory, worths, asks, byte):
    """What a byte bears, if these were the asks: None, (kind, place, value), or ("first", number of a byte)."""
    load = memory.load_of([byte])[0]
    if load is None:
        return None
    source, part = load
    if source != FIRST:
        return (memory.kinds[source], part, worths[source])
    asked = asks.place_at(part)
    if asked is None:
        return ("first", part)
    kind, place, index = asked
    return (kind, place, ("first", index))
