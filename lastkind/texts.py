"""Texts: short programs of reads, writes and byte copies."""

from lastkind.errors import BadText, NoStep
from lastkind.fitting import MOST_NAMES, MOST_PLACES, MOST_POINTERS, MOST_STEPS
from lastkind.fitting import first_misfit, names_of, place_fits, pointer_fits, reads_of, step_fits
from lastkind.reading import parts_of
from lastkind.words import is_within


class Text:
    """A valid text; BadText if the places, pointers and steps, any values, make none."""

    def __init__(self, places=(), pointers=(), steps=()):
        check_places(places)
        check_pointers(places, pointers)
        check_steps(places, pointers, steps)
        self.places = places
        self.pointers = pointers
        self.steps = steps

    def __len__(self):
        return len(self.steps)

    def __getitem__(self, at):
        if not is_within(at, 0, len(self.steps) - 1):
            raise NoStep(at)
        return self.steps[at]

    # Without this, a loop over a text would go over its steps, but `in` asks for its names.
    def __iter__(self):
        raise TypeError("a text is not iterated over: take its places, pointers or steps")

    def __eq__(self, other):
        return (isinstance(other, Text) and self.places == other.places
                and self.pointers == other.pointers and self.steps == other.steps)

    def __contains__(self, x):
        return x in names_of(self.places, self.pointers) + reads_of(self.steps)

    def with_step(self, step):
        """The text with one more step, any value, at the end; BadText if it cannot stand there."""
        if not step_fits(self.places, self.pointers, self.steps, step):
            raise BadText("steps", len(self.steps))
        return Text(self.places, self.pointers, (*self.steps, step))

    def names(self):
        """The names of the places and pointers, in their order."""
        return tuple(names_of(self.places, self.pointers))

    @classmethod
    def read(cls, note):
        """The text that a note, any value, stands for; BadNote if it is none."""
        places, pointers, steps = parts_of(note)
        return cls(places, pointers, steps)


def check_places(places):
    """BadText if any value is not the places of a text."""
    if not isinstance(places, tuple) or len(places) > MOST_PLACES:
        raise BadText("places", None)
    for at, place in enumerate(places):
        if not place_fits(places[:at], place):
            raise BadText("places", at)


def check_pointers(places, pointers):
    """BadText if any value is not the pointers of a text with these places."""
    if not isinstance(pointers, tuple) or len(pointers) > MOST_POINTERS:
        raise BadText("pointers", None)
    if len(places) + len(pointers) > MOST_NAMES:
        raise BadText("pointers", None)
    for at, pointer in enumerate(pointers):
        if not pointer_fits(places, pointers[:at], pointer):
            raise BadText("pointers", at)


def check_steps(places, pointers, steps):
    """BadText if any value is not the steps of a text with these places and pointers."""
    if not isinstance(steps, tuple) or len(steps) > MOST_STEPS:
        raise BadText("steps", None)
    at = first_misfit(places, pointers, steps)
    if at is not None:
        raise BadText("steps", at)
