"""Papers: why two steps of a text meet, or why they do not."""

from lastkind.errors import NoStep
from lastkind.layings import all_layings, is_laying
from lastkind.marks import marks_of, meeting
from lastkind.stepping import owners_of, plan_of, run_plan, spots_of
from lastkind.words import is_whole, is_within


def paper(text, i, j):
    """The paper for the pair of the indexes i and j, any values; NoStep of the first wrong one."""
    check_pair(text, i, j)
    rows = []
    for laying in all_layings(text):
        if touch_under(text, i, j, laying):
            index, reason = wrong_under(text, laying)
            if index is None:
                return ("meets", laying)
            rows.append((laying, index, reason))
    return ("apart", rows)


def holds(text, i, j, thing):
    """Whether any value is a paper for the pair of the indexes i and j, any values, that holds."""
    check_pair(text, i, j)
    if not isinstance(thing, tuple) or len(thing) != 2:
        return False
    if thing[0] == "meets" and is_laying(text, thing[1]):
        return touch_under(text, i, j, thing[1]) and wrong_under(text, thing[1])[0] is None
    return thing[0] == "apart" and is_same(thing, paper(text, i, j))


def check_pair(text, i, j):
    """NoStep of the first of two values that is no index of a step, or of the second if it is not greater."""
    if not is_within(i, 0, len(text) - 1):
        raise NoStep(i)
    if not is_within(j, i + 1, len(text) - 1):
        raise NoStep(j)


def touch_under(text, i, j, laying):
    """Whether two steps use a common byte under this laying, which may be unlawful, and one of them writes it."""
    marks = marks_of(plan_of(text.steps), spots_of(text.names(), laying))
    return meeting(marks, [(i, j)]) != []


def wrong_under(text, laying):
    """The index of the first unlawful step and the reason; None for both if there is none."""
    spots = spots_of(text.names(), laying)
    _, index, reason = run_plan(plan_of(text.steps), owners_of(text.places, spots), spots)
    return index, reason


def is_same(thing, due):
    """Whether any value is the same as one of strings, integers, None, lists and tuples.

    For Python, True equals 1, also within tuples.
    """
    if isinstance(due, tuple):
        return isinstance(thing, tuple) and are_same(thing, due)
    if isinstance(due, list):
        return isinstance(thing, list) and are_same(thing, due)
    if is_whole(due):
        return is_whole(thing) and thing == due
    return thing == due


def are_same(row, due):
    """Whether the parts of two tuples or lists are the same."""
    return len(row) == len(due) and all([is_same(thing, other) for thing, other in zip(row, due)])
