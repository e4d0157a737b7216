"""Marks: sets of bytes as integers. The bit of a byte is 1 if the byte is in the set."""

from lastkind.stepping import FAR
from lastkind.steps import WRITING


def mark_of(span, spots):
    """The mark of the bytes of a span; they may have numbers below 0, but none below -FAR."""
    name, first, many = span
    return ((1 << many) - 1) << (FAR + spots[name] + first)


def marks_of(plan, spots):
    """For each step a tuple of two marks: of the bytes that it uses, and of those that it writes."""
    marks = []
    for word, _, spans in plan:
        used = 0
        for span in spans:
            used = used | mark_of(span, spots)
        written = mark_of(spans[0], spots) if word in WRITING else 0
        marks.append((used, written))
    return marks


def meeting(marks, pairs):
    """Those of these pairs of steps that use a common byte which one of them writes."""
    return [(i, j) for i, j in pairs if marks[i][0] & marks[j][1] or marks[i][1] & marks[j][0]]


def without(mark, other):
    """The mark of the bytes of the first mark that are not in the other one."""
    return mark ^ (mark & other)


def shifted(mark, many):
    """The mark of the bytes that lie so many bytes behind these; in front of them if many is below 0."""
    return mark << many if many >= 0 else mark >> -many
