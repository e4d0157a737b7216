"""How a note is read. This file knows no Text, so that the class itself can read notes."""

from lastkind.errors import BadNote
from lastkind.fitting import place_fits, pointer_fits, step_fits
from lastkind.steps import FORMS, is_step
from lastkind.words import DIGITS


def parts_of(note):
    """The places, pointers and steps of the text that a note, any value, stands for."""
    if not isinstance(note, str):
        raise BadNote(0)
    places, pointers, steps = (), (), ()
    for at, line in enumerate(lines_of(note)):
        place, pointer, step = place_in(line), pointer_in(line), step_in(line)
        if not pointers and not steps and place_fits(places, place):
            places = (*places, place)
        elif not steps and pointer_fits(places, pointers, pointer):
            pointers = (*pointers, pointer)
        elif step_fits(places, pointers, steps, step):
            steps = (*steps, step)
        else:
            raise BadNote(at)
    return places, pointers, steps


def lines_of(note):
    """The lines of a note; the empty note has none."""
    return note.split("\n") if note != "" else []


def place_in(line):
    """The place that a line stands for, perhaps with a wrong name or kind; None if it is no such line."""
    words = line.split(" ")
    return tuple(words[1:]) if words[0] == "place" else None


def pointer_in(line):
    """The pointer that a line stands for, perhaps with a wrong name; None if it is no such line."""
    words = line.split(" ")
    return words[1] if words[0] == "pointer" and len(words) == 2 else None


def step_in(line):
    """The step that a line stands for; None if it stands for none."""
    word, *rest = line.split(" ")
    if word not in FORMS or len(rest) != len(FORMS[word]):
        return None
    parts = [word]
    for told, role in zip(rest, FORMS[word]):
        parts.extend(parts_in(told, role))
    step = tuple(parts)
    return step if is_step(step) else None


def parts_in(told, role):
    """The parts of a step that one word of its line stands for; they may be wrong ones."""
    if role == "byte":
        name, _, offset = told.partition("+")
        return [name, number_in(offset)]
    number = number_in(told)
    return [told if number is None else number]


def number_in(told):
    """The integer of at most 40 digits that a word stands for; None if it stands for none."""
    digits = told[1:] if told.startswith("-") else told
    if not 1 <= len(digits) <= 40 or not all([sign in DIGITS for sign in digits]):
        return None
    if digits[0] == "0" and told != "0":
        return None
    return int(told)
