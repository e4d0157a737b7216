"""Runs: what the steps of a text do under one laying."""

from lastkind.errors import NoLaying, NoStep
from lastkind.heaps import offsets_of
from lastkind.layings import is_laying
from lastkind.memory import FIRST
from lastkind.results import first_thing, load_told, told_values, worths_of
from lastkind.stepping import owners_of, plan_of, run_plan, spots_of
from lastkind.words import is_within


class Run:
    """The run of a text under a laying, any value; NoLaying if it is none."""

    def __init__(self, text, laying):
        if not is_laying(text, laying):
            raise NoLaying(laying)
        spots = spots_of(text.names(), laying)
        owners = owners_of(text.places, spots)
        memory, index, reason = run_plan(plan_of(text.steps), owners, spots)
        self._memory = memory
        self._index = index
        self._reason = reason
        self._done = text.steps if index is None else text.steps[:index]
        self._worths = worths_of(self._done, memory)
        self._bytes = bytes_of(offsets_of(text), spots, laying)

    @property
    def lawful(self):
        """Whether no step is unlawful."""
        return self._index is None

    @property
    def at(self):
        """The index of the first unlawful step; None if there is none."""
        return self._index

    @property
    def reason(self):
        """Why the first unlawful step is unlawful; None if there is none."""
        return self._reason

    def found(self, index):
        """What the read at the index, any value, finds; NoStep if no read stands there, or was not done."""
        if not is_within(index, 0, len(self._done) - 1) or self._done[index][0] != "read":
            raise NoStep(index)
        source = self._memory.sources[index]
        return first_thing(self._memory.asks, index) if source == FIRST else ("write", source)

    def told(self):
        """The list of the values that are told."""
        return told_values(self._done, self._worths)

    def end(self):
        """What each byte of the names bears at the end: a dict from tuples (first, offset)."""
        return {self._bytes[byte]: self._load_at(byte) for byte in sorted(self._bytes)}

    def _load_at(self, byte):
        """What the byte with this number bears, as it is told."""
        load = load_told(self._memory, self._worths, self._memory.asks, byte)
        if load is not None and load[0] == "first":
            return ("first", self._bytes[load[1]])
        return load


def bytes_of(offsets, spots, laying):
    """From the number of each byte of the names to the tuple by which it is told."""
    told = {}
    for entry, name in zip(laying, offsets):
        first, distance = (name, 0) if entry is None else entry
        for offset in offsets[name]:
            told[spots[name] + offset] = (first, distance + offset)
    return told
