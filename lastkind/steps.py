"""The forms of steps, and what a step uses."""

from lastkind.words import is_kind, is_name, is_whole, is_within, size_of

# The bytes that a step uses have offsets below this one.
WIDTH = 8

# The words of the steps that write bytes.
WRITING = ("write", "copy", "blank")

# What follows the word of a step, in the words of a note's line.
# A byte is one word there and two parts of the step: a name and an offset.
FORMS = {
    "read": ("name", "kind", "byte"),
    "write": ("kind", "byte", "value"),
    "copy": ("many", "byte", "byte"),
    "blank": ("many", "byte"),
    "tell": ("name",),
}


def is_step(thing):
    """Whether any value has the form of a step."""
    if not isinstance(thing, tuple) or len(thing) == 0 or not isinstance(thing[0], str):
        return False
    if thing[0] not in FORMS:
        return False
    roles = roles_of(thing[0])
    if len(thing) != len(roles) + 1:
        return False
    return all([has_role(part, role) for part, role in zip(thing[1:], roles)])


def roles_of(word):
    """The roles of the parts that follow the word of a step."""
    roles = []
    for role in FORMS[word]:
        if role == "byte":
            roles.extend(["name", "offset"])
        else:
            roles.append(role)
    return roles


def has_role(part, role):
    """Whether any value may be the part of a step that has this role."""
    if role == "kind":
        return is_kind(part)
    if role == "offset":
        return is_within(part, 0, WIDTH - 1)
    if role == "many":
        return is_within(part, 1, WIDTH)
    if role == "value" and is_whole(part):
        return abs(part) < 10 ** 40
    return is_name(part)


def spans_of(step):
    """The bytes that a step uses: a list of tuples (name, first offset, number of bytes)."""
    word = step[0]
    if word == "read":
        return [(step[3], step[4], size_of(step[2]))]
    if word == "write":
        return [(step[2], step[3], size_of(step[1]))]
    if word == "copy":
        return [(step[2], step[3], step[1]), (step[4], step[5], step[1])]
    if word == "blank":
        return [(step[2], step[3], step[1])]
    return []


def kind_of(step):
    """The kind of what a read or a write is about; None for the other steps."""
    if step[0] == "read":
        return step[2]
    return step[1] if step[0] == "write" else None


def value_name(step):
    """The name of the value that a write or a tell uses; None if it uses none."""
    if step[0] in ("write", "tell") and isinstance(step[-1], str):
        return step[-1]
    return None
