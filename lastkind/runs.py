"""Runs: what the steps of a text do under one laying."""

from lastkind.errors import NoLaying, NoStep
from lastkind.heaps import offsets_of
from lastkind.layings import is_laying
from lastkind.memory import FIRST
from lastkind.stepping import owners_of, plan_of, run_plan, spots_of
from lastkind.words import is_within


class Run:
    """The run of a text under a laying, any value; NoLaying if it is none."""

    def __init__(self, text, laying):
        if not is_laying(text, laying):
            raise NoLaying(laying)
        spots = spots_of(text.names(), laying)
        owners = owners_of(text.places, spots)
        memory, index, reason = run_plan(plan_of(text.steps), owners, spots)
        self._memory = memory
        self._index = index
        self._reason = reason
        self._done = text.steps if index is None else text.steps[:index]
        self._reads = {step[1]: k for k, step in enumerate(self._done) if step[0] == "read"}
        self._bytes = bytes_of(offsets_of(text), spots, laying)

    @property
    def lawful(self):
        """Whether no step is unlawful."""
        return self._index is None

    @property
    def at(self):
        """The index of the first unlawful step; None if there is none."""
        return self._index

    @property
    def reason(self):
        """Why the first unlawful step is unlawful; None if there is none."""
        return self._reason

    def found(self, index):
        """What the read at the index, any value, finds; NoStep if no read stands there, or was not done."""
        if not is_within(index, 0, len(self._done) - 1) or self._done[index][0] != "read":
            raise NoStep(index)
        source = self._memory.sources[index]
        if source == FIRST:
            return ("first", self._memory.asks.earliest(index))
        return ("write", source)

    def told(self):
        """The list of the values that are told."""
        return [self._worth(step[1]) for step in self._done if step[0] == "tell"]

    def end(self):
        """What each byte of the names bears at the end: a dict from tuples (first, offset)."""
        return {self._bytes[byte]: self._told_load(byte) for byte in sorted(self._bytes)}

    def _worth(self, told):
        """The value that an integer or the name of a read stands for."""
        if not isinstance(told, str):
            return told
        word, index = self.found(self._reads[told])
        return (word, index) if word == "first" else self._worth(self._done[index][-1])

    def _told_load(self, byte):
        """What a byte bears, as it is told."""
        load = self._memory.load_of([byte])[0]
        if load is None:
            return None
        source, part = load
        if source != FIRST:
            return (self._memory.kinds[source], part, self._worth(self._done[source][-1]))
        asked = self._memory.asks.place_at(part)
        if asked is None:
            return ("first", self._bytes[part])
        kind, place, index = asked
        return (kind, place, ("first", index))


def bytes_of(offsets, spots, laying):
    """From the number of each byte of the names to the tuple by which it is told."""
    told = {}
    for entry, name in zip(laying, offsets):
        first, distance = (name, 0) if entry is None else entry
        for offset in offsets[name]:
            told[spots[name] + offset] = (first, distance + offset)
    return told
