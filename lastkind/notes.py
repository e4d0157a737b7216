"""Notes: texts as lines of words."""

from lastkind.texts import Text


def read_text(note):
    """The text that a note, any value, stands for; BadNote if it is none."""
    return Text.read(note)
