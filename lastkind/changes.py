"""Changes of neighbours: which steps next to each other may change places."""

from lastkind.errors import NoStep, Turned
from lastkind.orders import check_right
from lastkind.pairs import binding_among
from lastkind.texts import Text
from lastkind.words import is_within


def may_change(text, k):
    """Whether the steps at k, any value, and k + 1 may change places; NoStep if there are none."""
    if not is_within(k, 0, len(text) - 2):
        raise NoStep(k)
    return binding_among(text, [(k, k + 1)]) == []


def may_change_back(text, k):
    """Whether, in the text in which they are exchanged, they may change places; NoStep, then Turned."""
    return may_change(exchanged(text, k), k)


def exchanged(text, k):
    """The text in which the steps at k, any value, and k + 1 are exchanged; NoStep, then Turned."""
    if not may_change(text, k):
        raise Turned((k, k + 1))
    steps = (*text.steps[:k], text.steps[k + 1], text.steps[k], *text.steps[k + 2:])
    return Text(text.places, text.pointers, steps)


def changes(text, order):
    """A shortest list of changes, each the index of the first of two neighbours, that leads to an order.

    Each step in its turn moves to the front, past those that stand behind it in the order. So no
    two steps change places twice, and each order on the way keeps all pairs that this one keeps.
    """
    check_right(text, order)
    row = list(range(len(text)))
    moves = []
    for at, step in enumerate(order):
        here = row.index(step)
        moves.extend(list(reversed(range(at, here))))
        row.insert(at, row.pop(here))
    return moves
