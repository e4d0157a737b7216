"""Pairs of steps that meet under a lawful laying, or that need their order for another reason."""

from lastkind.marks import marks_of, meeting
from lastkind.searching import least_layings
from lastkind.steps import value_name


def meets(text):
    """The list of tuples (i, j, laying) of all pairs that meet, with the least laying for each."""
    least = least_layings(text, pairs_of(text), meeting_under)
    return [(i, j, least[(i, j)]) for i, j in pairs_of(text) if (i, j) in least]


def needs(text):
    """The sorted list of the needed pairs."""
    return [(i, j) for i, j in pairs_of(text) if is_needed(text.steps[i], text.steps[j])]


def binding(text):
    """The sorted list of the pairs that meet or are needed."""
    return binding_among(text, pairs_of(text))


def binding_among(text, pairs):
    """Those of these pairs that meet or are needed. To ask for few of them is faster than for all."""
    needed = needs(text)
    least = least_layings(text, [pair for pair in pairs if pair not in needed], meeting_under)
    return [pair for pair in pairs if pair in needed or pair in least]


def pairs_of(text):
    """The sorted list of all pairs of indexes of steps."""
    return [(i, j) for i in range(len(text)) for j in range(i + 1, len(text))]


def is_needed(step, later):
    """Whether the later one of two steps uses the value of the other one, or both tell."""
    if step[0] == "tell":
        return later[0] == "tell"
    return step[0] == "read" and value_name(later) == step[1]


def meeting_under(plan, _, spots, pairs):
    """Those of these pairs that meet under one laying, if it is lawful."""
    return meeting(marks_of(plan, spots), pairs)
