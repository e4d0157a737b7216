"""What may stand in a text, behind what stands there already."""

from lastkind.steps import WIDTH, is_step, spans_of, value_name
from lastkind.words import is_kind, is_name

MOST_PLACES = 2
MOST_POINTERS = 3
MOST_NAMES = 4
MOST_STEPS = 12


def names_of(places, pointers):
    """The list of the names of these places and pointers."""
    return [place[0] for place in places] + list(pointers)


def reads_of(steps):
    """The list of the names that these steps give to what they read."""
    return [step[1] for step in steps if step[0] == "read"]


def place_fits(places, place):
    """Whether any value may stand as the next place behind these places."""
    if len(places) >= MOST_PLACES or not isinstance(place, tuple) or len(place) != 2:
        return False
    name, kind = place
    return is_name(name) and is_kind(kind) and name not in names_of(places, [])


def pointer_fits(places, pointers, pointer):
    """Whether any value may stand as the next pointer behind these places and pointers."""
    names = names_of(places, pointers)
    if len(pointers) >= MOST_POINTERS or len(names) >= MOST_NAMES:
        return False
    return is_name(pointer) and pointer not in names


def step_fits(places, pointers, steps, step):
    """Whether any value may stand as the next step behind these places, pointers and steps."""
    if len(steps) >= MOST_STEPS or not is_step(step):
        return False
    names = names_of(places, pointers)
    return spans_fit(names, step) and values_fit(names, reads_of(steps), step)


def first_misfit(places, pointers, steps):
    """The index of the first of these entries, any values, that may not stand there; None if all may.

    What stands behind it is not looked at: only steps that fit have names.
    """
    for at, step in enumerate(steps):
        if not step_fits(places, pointers, steps[:at], step):
            return at
    return None


def spans_fit(names, step):
    """Whether a step uses only bytes of these names, and none with an offset that is too large."""
    return all([name in names and first + many <= WIDTH for name, first, many in spans_of(step)])


def values_fit(names, reads, step):
    """Whether a step gives a name that is not taken, or uses only a value that was read."""
    if step[0] == "read":
        return step[1] not in names + reads
    used = value_name(step)
    return used is None or used in reads
