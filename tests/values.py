"""Values that are neither names nor kinds nor integers, and the notes of texts."""

from lastkind.texts import Text

# Neither strings nor integers, and no tuple that is a place or a step.
OTHERS = [
    None, True, False, (), [], ("p",), ["p"], [1], (0,), ("tell", ("x",)), ([[]],), ((((),),),),
    1.5, {}, b"p",
]


def text_of(head, *lines):
    """A text: the pointers, or the places too, in one string, and the lines of the steps."""
    rows = [f"place {word.replace('=', ' ')}" if "=" in word else f"pointer {word}" for word in head.split()]
    return Text.read("\n".join([*rows, *lines]))


def note_of(text):
    """The note of a text, written independently of the package."""
    lines = [f"place {name} {kind}" for name, kind in text.places]
    lines += [f"pointer {name}" for name in text.pointers]
    lines += [line_of(step) for step in text.steps]
    return "\n".join(lines)


def line_of(step):
    word = step[0]
    if word == "read":
        return f"read {step[1]} {step[2]} {step[3]}+{step[4]}"
    if word == "write":
        return f"write {step[1]} {step[2]}+{step[3]} {step[4]}"
    if word == "copy":
        return f"copy {step[1]} {step[2]}+{step[3]} {step[4]}+{step[5]}"
    if word == "blank":
        return f"blank {step[1]} {step[2]}+{step[3]}"
    return f"tell {step[1]}"
