"""Orders in which the steps of a text may be done.

Steps that are done are a mark here: an integer in which the bit of each of these steps is 1.
"""

from lastkind.errors import NoOrder, Turned
from lastkind.pairs import binding, binding_among, pairs_of
from lastkind.texts import Text
from lastkind.words import is_within


def turned_pair(text, order):
    """The first binding pair that an order, any value, does not keep; None if it is right."""
    wrong = binding_among(text, pairs_around(text, order))
    return wrong[0] if wrong else None


def turned(text, order):
    """The text with its steps in this order, any value; NoOrder if it is none, Turned if it is not right."""
    check_right(text, order)
    return Text(text.places, text.pointers, tuple([text.steps[k] for k in order]))


def number_of(text, order):
    """The number of an order, any value, among the right ones; NoOrder or Turned as above."""
    check_right(text, order)
    before = befores_of(text)
    ways = ways_on(before)
    number, done = 0, 0
    for step in order:
        number += sum([ways[done | (1 << k)] for k in ready(before, done) if k < step])
        done = done | (1 << step)
    return number


def order_at(text, number):
    """The right order with this number, any value; NoOrder if there is none."""
    before = befores_of(text)
    ways = ways_on(before)
    if not is_within(number, 0, ways[0] - 1):
        raise NoOrder(number)
    order, done = [], 0
    for _ in text.steps:
        nexts = ready(before, done)
        while number >= ways[done | (1 << nexts[0])]:
            number -= ways[done | (1 << nexts[0])]
            nexts = nexts[1:]
        order.append(nexts[0])
        done = done | (1 << nexts[0])
    return tuple(order)


def count_orders(text):
    """How many right orders there are."""
    return ways_on(befores_of(text))[0]


def orders(text):
    """A generator of all right orders, sorted."""
    before = befores_of(text)
    order = filled(before, [])
    while order is not None:
        yield tuple(order)
        order = next_order(before, order)


def pairs_around(text, order):
    """The sorted list of the pairs that an order, any value, does not keep; NoOrder if it is none."""
    last = len(text) - 1
    if not isinstance(order, tuple) or not all([is_within(k, 0, last) for k in order]):
        raise NoOrder(order)
    if len(order) != len(text) or len(set(order)) != len(order):
        raise NoOrder(order)
    return [(i, j) for i, j in pairs_of(text) if order.index(j) < order.index(i)]


def check_right(text, order):
    """NoOrder if any value is no order of the text, Turned if it is not right."""
    pair = turned_pair(text, order)
    if pair is not None:
        raise Turned(pair)


def befores_of(text):
    """For each step the mark of those that bind it to stand behind them."""
    before = [0 for _ in text.steps]
    for i, j in binding(text):
        before[j] = before[j] | (1 << i)
    return before


def ready(before, done):
    """The ascending list of the steps that may be done next."""
    return [k for k, mark in enumerate(before) if not done & (1 << k) and mark & done == mark]


def ways_on(before):
    """From each mark of steps that may be done first to the number of ways to do all others."""
    levels = [{0: True}]
    for _ in before:
        longer = {}
        for done in levels[-1]:
            for k in ready(before, done):
                longer[done | (1 << k)] = True
        levels.append(longer)
    ways = {done: 1 for done in levels[-1]}
    for level in reversed(list(levels[:-1])):
        for done in level:
            ways[done] = sum([ways[done | (1 << k)] for k in ready(before, done)])
    return ways


def filled(before, begun):
    """The first right order that begins with these steps, which may be done first."""
    order = list(begun)
    done = sum([1 << k for k in begun])
    while len(order) < len(before):
        step = ready(before, done)[0]
        order.append(step)
        done = done | (1 << step)
    return order


def next_order(before, order):
    """The right order behind this one; None if it is the last one."""
    done = (1 << len(order)) - 1
    for at, step in reversed(list(enumerate(order))):
        done = done ^ (1 << step)
        greater = [k for k in ready(before, done) if k > step]
        if greater:
            return filled(before, [*order[:at], greater[0]])
    return None
