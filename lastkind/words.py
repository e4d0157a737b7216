"""Names, kinds, and the integers of the document."""

LETTERS = "abcdefghijklmnopqrstuvwxyz"
DIGITS = "0123456789"
SIZES = "1234"


def is_name(thing):
    """Whether any value is a name: a lowercase letter, then up to seven of these or digits."""
    if not isinstance(thing, str) or not 1 <= len(thing) <= 8:
        return False
    return thing[0] in LETTERS and all([sign in LETTERS + DIGITS for sign in thing])


def is_kind(thing):
    """Whether any value is a kind: one to six lowercase letters, then a digit from 1 to 4."""
    if not isinstance(thing, str) or not 2 <= len(thing) <= 7:
        return False
    return thing[-1] in SIZES and all([sign in LETTERS for sign in thing[:-1]])


def size_of(kind):
    """The size of a kind in bytes."""
    return int(kind[-1])


def is_whole(thing):
    """Whether any value is an integer. A truth value is none, although Python counts it as one."""
    return isinstance(thing, int) and not isinstance(thing, bool)


def is_within(thing, least, most):
    """Whether any value is an integer from the least to the most one."""
    return is_whole(thing) and least <= thing <= most
