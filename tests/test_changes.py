"""Changes of neighbours: point [18]."""

import itertools
import random
import unittest

import oracle
import trying
from lastkind.changes import changes, may_change, may_change_back
from lastkind.errors import NoOrder, NoStep, Turned
from lastkind.orders import orders, turned
from lastkind.pairs import binding
from lastkind.texts import Text
from values import OTHERS, text_of

# The example of [18]: the read of another kind may stand in front of the write, but not the other way.
BACK = text_of("p q", "write int4 p+0 1", "read x word4 q+0")
NO_INDEXES = [-1, -2, 10 ** 59, -10 ** 59, "0", (0,), [0], True, False, None]


def exchange(order, k):
    return (*order[:k], order[k + 1], order[k], *order[k + 2:])


class MayChange(unittest.TestCase):
    def test_each_two_neighbours(self):
        text = text_of("p q", "read x c1 p+0", "read y c1 q+0", "write c1 p+4 x", "tell y", "tell x", "blank 1 p+0")
        self.assertEqual([may_change(text, k) for k in range(5)], [True, False, True, False, True])
        for k in range(5):
            self.assertIs(type(may_change(text, k)), bool)
            self.assertIs(may_change(text=text, k=k), may_change(text, k))

    def test_what_binds(self):
        for wanted, lines in [
                (False, ["blank 1 p+0", "blank 1 q+0"]), (False, ["read x c1 p+0", "write c1 q+0 1"]),
                (False, ["write c1 p+0 1", "read x c1 q+0"]), (False, ["copy 1 p+0 p+4", "blank 1 q+0"]),
                (False, ["copy 1 p+4 p+0", "blank 1 q+0"]), (True, ["read x c1 p+0", "read y c1 q+0"]),
                (True, ["copy 1 p+4 p+0", "read y c1 p+0"]), (True, ["write c1 p+0 1", "read x d1 q+0"])]:
            self.assertIs(may_change(text_of("p q", *lines), 0), wanted, lines)

    def test_steps_elsewhere_matter(self):
        lines = ["write c1 p+0 1", "write d1 q+0 2", "read x c1 p+0"]
        self.assertIs(may_change(text_of("p q", *lines[:2]), 0), False)
        self.assertIs(may_change(text_of("p q", *lines), 0), True)

    def test_without_a_lawful_laying(self):
        text = text_of("p", "write c1 p+0 1", "read x d1 p+0", "blank 1 p+0", "tell x", "tell x")
        self.assertEqual([may_change(text, k) for k in range(4)], [True, True, True, False])

    def test_no_step(self):
        two = text_of("p", "blank 1 p+0", "blank 1 p+0")
        for text in two, BACK, Text(), text_of("p", "blank 1 p+0"):
            for k in [*NO_INDEXES, *OTHERS, len(text) - 1, len(text), len(text) + 1, text]:
                for ask in may_change, may_change_back:
                    with self.assertRaises(NoStep) as caught:
                        ask(text, k)
                    self.assertIs(caught.exception.index, k)

    def test_against_all_orders(self):
        for seed in range(60):
            text = oracle.made_text(seed, places=1, pointers=2, steps=5, kinds=("half2", "c1"))
            rows = [trying.touched(text, laying) for laying in trying.lawful(text)]
            for k in range(len(text) - 1):
                right = trying.is_right(text, exchange(tuple(range(len(text))), k), rows)
                self.assertIs(may_change(text, k), right, (text.steps, k))


class Back(unittest.TestCase):
    def test_the_example(self):
        self.assertIs(may_change(BACK, 0), True)
        self.assertIs(may_change_back(BACK, 0), False)
        self.assertIs(may_change_back(text=BACK, k=0), False)

    def test_right(self):
        text = text_of("p q", "read x c1 p+0", "read y c1 q+0", "write int4 p+0 1", "write int4 p+4 1")
        self.assertEqual([may_change_back(text, k) for k in (0, 2)], [True, True])

    def test_turned(self):
        for k, text in [(0, text_of("p", "blank 1 p+0", "blank 1 p+0")),
                        (1, text_of("p", "blank 1 p+4", "read x c1 p+0", "tell x")),
                        (2, text_of("p q", "blank 1 p+4", "read x c1 p+0", "tell x", "tell x"))]:
            with self.assertRaises(Turned) as caught:
                may_change_back(text, k)
            self.assertEqual(caught.exception.pair, (k, k + 1))

    def test_no_step_before_turned(self):
        text = text_of("p", "blank 1 p+0", "blank 1 p+0")
        for k in [True, False, 1, -1]:
            with self.assertRaises(NoStep):
                may_change_back(text, k)

    def test_against_the_turned_text(self):
        wrong = 0
        for seed in range(80):
            text = oracle.made_text(seed, places=1, pointers=2, steps=5, kinds=("half2", "pair2"))
            for k in range(len(text) - 1):
                if may_change(text, k):
                    again = turned(text, exchange(tuple(range(len(text))), k))
                    self.assertIs(may_change_back(text, k), (k, k + 1) not in binding(again))
                    wrong += not may_change_back(text, k)
        self.assertGreater(wrong, 3)


class Changes(unittest.TestCase):
    def check(self, text, order):
        moves = changes(text, order)
        self.assertIs(type(moves), list)
        bound = binding(text)
        row = tuple(range(len(text)))
        for k in moves:
            self.assertTrue(0 <= k < len(text) - 1)
            row = exchange(row, k)
            self.assertFalse([(i, j) for i, j in bound if row.index(j) < row.index(i)], (order, moves))
            turned(text, row)
        self.assertEqual(row, order)
        pairs = itertools.combinations(range(len(text)), 2)
        self.assertEqual(len(moves), sum(order.index(j) < order.index(i) for i, j in pairs))
        return moves

    def test_all_right_orders(self):
        text = text_of("p q", "read x c1 p+0", "read y c1 p+1", "blank 1 q+0", "tell y", "read z c1 p+4")
        for order in orders(text):
            self.check(text, order)

    def test_all_orders_of_steps_apart(self):
        text = text_of("p", *[f"read x{k} c1 p+0" for k in range(5)])
        for order in itertools.permutations(range(5)):
            self.check(text, order)

    def test_twelve_steps(self):
        text = text_of("p", *[f"read x{k} c1 p+0" for k in range(12)])
        self.assertEqual(len(self.check(text, tuple(range(11, -1, -1)))), 66)
        self.assertEqual(self.check(text, (1, 0, *range(2, 12))), [0])
        self.assertEqual(self.check(text, (*range(10), 11, 10)), [10])

    def test_the_order_of_the_text_itself(self):
        for text in Text(), BACK, text_of("p", "blank 1 p+0"):
            self.assertEqual(self.check(text, tuple(range(len(text)))), [])

    def test_new_lists(self):
        changes(BACK, (1, 0)).clear()
        self.assertEqual(changes(text=BACK, order=(1, 0)), [0])

    def test_made_texts(self):
        for seed in range(40):
            text = oracle.made_text(seed, places=1, pointers=2, steps=6, kinds=("half2", "c1"))
            right = list(orders(text))
            for order in random.Random(seed).sample(right, min(4, len(right))):
                self.check(text, order)

    def test_no_order_then_turned(self):
        text = text_of("p", "blank 1 p+0", "blank 1 p+0", "read x c1 p+4")
        for order in [(), (1, 0), (1, 0, 1), (1, 0, 3), (True, False, 2), [0, 1, 2], (0, 1, 2, 3), None, "012", 0,
                      text]:
            with self.assertRaises(NoOrder) as caught:
                changes(text, order)
            self.assertIs(caught.exception.order, order)
        for order in [(1, 0, 2), (2, 1, 0), (1, 2, 0)]:
            with self.assertRaises(Turned) as caught:
                changes(text, order)
            self.assertEqual(caught.exception.pair, (0, 1))


if __name__ == "__main__":
    unittest.main()
