"""Notes: texts as lines of words."""

from lastkind.steps import FORMS
from lastkind.texts import Text


def read_text(note):
    """The text that a note, any value, stands for; BadNote if it is none."""
    return Text.read(note)


def write_text(text):
    """The note of a text."""
    lines = [f"place {name} {kind}" for name, kind in text.places]
    lines.extend([f"pointer {name}" for name in text.pointers])
    lines.extend([line_of(step) for step in text.steps])
    return "\n".join(lines)


def line_of(step):
    """The line that stands for a step."""
    words = [step[0]]
    part = 1
    for role in FORMS[step[0]]:
        if role == "byte":
            words.append(f"{step[part]}+{step[part + 1]}")
            part += 2
        else:
            words.append(str(step[part]))
            part += 1
    return " ".join(words)
