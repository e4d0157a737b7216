"""Orders: points [16] and [17], and what point [3] says of them."""

import copy
import itertools
import math
import random
import unittest

import oracle
import trying
from lastkind.errors import NoOrder, Turned
from lastkind.layings import layings
from lastkind.orders import count_orders, number_of, order_at, orders, turned, turned_pair
from lastkind.pairs import binding, meets
from lastkind.runs import Run
from lastkind.texts import Text
from values import OTHERS, text_of

# Two writes of one byte, a read of it behind them, two tells of what was read, and a step apart.
LINES = ["write c1 p+0 1", "write c1 p+0 2", "read x c1 p+0", "tell x", "tell x", "blank 1 p+4"]
TEXT = text_of("p", *LINES)
CHAIN = [(0, 1, 2, 3, 4)[:k] + (5,) + (0, 1, 2, 3, 4)[k:] for k in range(5, -1, -1)]
FREE = text_of("p", *[f"read x{k} c1 p+0" for k in range(12)])

FORMS = [
    {"places": 0, "pointers": 2, "steps": 5, "width": 3, "kinds": ("half2", "c1")},
    {"places": 0, "pointers": 2, "steps": 6, "width": 3, "kinds": ("half2",),
     "words": ("read", "copy", "copy", "tell", "read", "write")},
    {"places": 1, "pointers": 1, "steps": 6, "width": 3, "kinds": ("half2", "c1")},
    {"places": 2, "pointers": 2, "steps": 5, "width": 2, "kinds": ("half2", "pair2", "c1")},
    {"places": 0, "pointers": 3, "steps": 5, "width": 2, "kinds": ("c1", "d1")},
]


class Turns(unittest.TestCase):
    def check(self, pair, order, text=TEXT):
        self.assertEqual(turned_pair(text, order), pair)
        self.assertIn(type(turned_pair(text, order)), (tuple, type(None)))
        if pair is None:
            self.assertEqual(turned(text, order).steps, tuple(text.steps[k] for k in order))
            self.assertEqual(order_at(text, number_of(text, order)), order)
        else:
            self.assertIn(pair, binding(text))
            for ask in turned, number_of:
                with self.assertRaises(Turned) as caught:
                    ask(text, order)
                self.assertEqual(caught.exception.pair, pair)

    def test_the_order_of_the_text(self):
        self.check(None, (0, 1, 2, 3, 4, 5))
        self.assertEqual(turned(TEXT, (0, 1, 2, 3, 4, 5)), TEXT)
        self.assertEqual(number_of(TEXT, (0, 1, 2, 3, 4, 5)), 0)

    def test_each_kind_of_pair(self):
        self.check((0, 1), (1, 0, 2, 3, 4, 5))
        self.check((1, 2), (0, 2, 1, 3, 4, 5))
        self.check((2, 3), (0, 1, 3, 2, 4, 5))
        self.check((3, 4), (0, 1, 2, 4, 3, 5))
        self.check(None, (0, 1, 2, 3, 5, 4))
        for lines in [("blank 1 p+0", "blank 1 q+0"), ("copy 1 p+0 p+4", "blank 1 q+0"),
                      ("copy 1 p+4 p+0", "blank 1 q+0"), ("read x c1 p+0", "write c1 q+0 1"),
                      ("write c1 p+0 1", "read x c1 q+0"), ("read x c1 p+0", "write c1 q+0 x"),
                      ("read x c1 p+0", "tell x"), ("copy 1 p+0 q+0", "copy 1 q+0 p+0")]:
            self.check((0, 1), (1, 0), text_of("p q", *lines))
        for lines in [("read x c1 p+0", "read y c1 q+0"), ("read x c1 p+0", "copy 1 p+1 q+0"),
                      ("write int4 p+0 1", "write int4 p+4 1"), ("write c1 p+0 1", "read x d1 q+0"),
                      ("blank 1 p+0", "read x c1 q+0")]:
            self.check(None, (1, 0), text_of("p q", *lines))

    def test_the_first_pair_of_those_that_are_not_kept(self):
        self.check((0, 1), (5, 4, 3, 2, 1, 0))
        self.check((1, 2), (0, 2, 4, 1, 3, 5))
        self.check((2, 3), (0, 1, 4, 3, 2, 5))
        text = text_of("p q", "write c1 p+0 1", "write c1 q+4 1", "read x c1 p+0", "read y c1 q+4")
        self.assertEqual([pair for pair in binding(text)], [(0, 1), (0, 2), (0, 3), (1, 2), (1, 3)])
        self.check((0, 2), (2, 0, 1, 3), text)
        self.check((0, 1), (1, 0, 2, 3), text)
        self.check((0, 3), (3, 0, 1, 2), text)
        self.check((1, 2), (0, 2, 1, 3), text)
        self.check(None, (0, 1, 3, 2), text)

    def test_without_a_lawful_laying_only_needed_pairs_are_kept(self):
        text = text_of("p", "write c1 p+0 1", "read x d1 p+0", "blank 1 p+0", "tell x")
        self.check(None, (2, 1, 0, 3), text)
        self.check((1, 3), (2, 3, 0, 1), text)
        self.assertEqual(count_orders(text), 12)

    def test_the_empty_text(self):
        self.check(None, (), Text())
        self.assertEqual(turned(Text(), ()), Text())
        self.assertEqual((count_orders(Text()), order_at(Text(), 0), number_of(Text(), ())), (1, (), 0))
        self.assertEqual(list(orders(Text())), [()])

    def test_places_and_pointers_stay(self):
        text = text_of("a=half2 b=c1 p", "read x half2 a+0", "read y c1 b+0")
        self.assertEqual(turned(text, (1, 0)), Text(text.places, text.pointers, text.steps[::-1]))


class Wrong(unittest.TestCase):
    def refused(self, text, order):
        before = copy.deepcopy(order)
        for ask in turned_pair, turned, number_of:
            with self.assertRaises(NoOrder) as caught:
                ask(text, order)
            self.assertIs(caught.exception.order, order)
        self.assertEqual(order, before)

    def test_parts(self):
        for order in [(), (0, 1, 2, 3, 4), (0, 1, 2, 3, 4, 5, 6), (0, 1, 2, 3, 4, 4), (0, 1, 2, 3, 4, 6),
                      (-1, 0, 1, 2, 3, 4), (0, 1, 2, 3, 4, -1), (False, True, 2, 3, 4, 5), (0, True, 2, 3, 4, 5),
                      (False, 1, 2, 3, 4, 5), (0, 1, 2, 3, 4, 10 ** 59), ("0", 1, 2, 3, 4, 5), (None, 1, 2, 3, 4, 5),
                      ((0,), 1, 2, 3, 4, 5), ([0], 1, 2, 3, 4, 5), (0, 1, 2, 3, 4, []), (1, 1, 2, 3, 4, 5),
                      (0, 1, 2, 3, 4, 5, 5), (5,) * 6]:
            self.refused(TEXT, order)

    def test_a_list_in_the_place_of_the_tuple(self):
        self.refused(TEXT, [0, 1, 2, 3, 4, 5])
        self.refused(TEXT, [5, 4, 3, 2, 1, 0])
        self.refused(Text(), [])

    def test_other_values(self):
        for order in OTHERS + ["012345", 0, 5, TEXT, ""]:
            self.refused(TEXT, order)
            if order != ():
                self.refused(Text(), order)

    def test_before_turned(self):
        self.refused(TEXT, (1, 0, 2, 3, 4))
        self.refused(TEXT, (1, 0, 2, 3, 4, 4))


class Numbers(unittest.TestCase):
    def test_each_number(self):
        self.assertEqual(list(orders(TEXT)), CHAIN)
        self.assertEqual(count_orders(TEXT), 6)
        for number, order in enumerate(CHAIN):
            self.assertEqual(order_at(TEXT, number), order)
            self.assertEqual(number_of(TEXT, order), number)
            self.assertIs(type(order_at(TEXT, number)), tuple)
            self.assertIs(type(number_of(TEXT, order)), int)

    def test_no_number(self):
        for text, many in (TEXT, 6), (Text(), 1), (FREE, math.factorial(12)):
            self.assertEqual(count_orders(text), many)
            order_at(text, many - 1)
            for number in [-1, many, many + 1, -many, 10 ** 59, True, False, None, "0", (0,), [0], (), [], text]:
                with self.assertRaises(NoOrder) as caught:
                    order_at(text, number)
                self.assertIs(caught.exception.order, number)

    def test_by_name(self):
        order = CHAIN[2]
        self.assertIsNone(turned_pair(text=TEXT, order=order))
        self.assertEqual(turned(text=TEXT, order=order), turned(TEXT, order))
        self.assertEqual(number_of(text=TEXT, order=order), 2)
        self.assertEqual(order_at(text=TEXT, number=2), order)
        self.assertEqual(count_orders(text=TEXT), 6)
        self.assertEqual(list(orders(text=TEXT)), CHAIN)


class Walks(unittest.TestCase):
    def test_several_at_once(self):
        text = text_of("p q", "read x c1 p+0", "read y c1 p+1", "write c1 q+5 x", "read z c1 p+0")
        all_orders = trying.right_orders(text)
        one, other = orders(text), orders(text)
        self.assertEqual([next(one), next(one), next(other)], [all_orders[0], all_orders[1], all_orders[0]])
        self.assertEqual(list(orders(text)), all_orders)
        pairs = list(zip(one, other))
        self.assertEqual(pairs, list(zip(all_orders[2:], all_orders[1:])))
        self.assertEqual(list(one), [])

    def test_walks_of_several_texts(self):
        walks = [orders(TEXT), orders(FREE), orders(Text()), orders(TEXT)]
        self.assertEqual([next(walk) for walk in walks], [CHAIN[0], tuple(range(12)), (), CHAIN[0]])
        self.assertEqual([next(walk, None) for walk in walks],
                         [CHAIN[1], (*range(10), 11, 10), None, CHAIN[1]])

    def test_it_is_a_generator(self):
        self.assertEqual(type(orders(TEXT)).__name__, "generator")
        self.assertEqual(list(itertools.islice(orders(FREE), 3)), [
            tuple(range(12)), (*range(10), 11, 10), (*range(9), 10, 9, 11)])

    def test_the_text_does_not_change(self):
        before = (TEXT.places, TEXT.pointers, TEXT.steps)
        list(orders(TEXT))
        turned(TEXT, CHAIN[3])
        self.assertEqual((TEXT.places, TEXT.pointers, TEXT.steps), before)


class Trials(unittest.TestCase):
    def texts(self, many):
        for form in FORMS:
            for seed in range(many):
                yield oracle.made_text(seed, **form)

    def test_right_orders_against_all_orders_byte_by_byte(self):
        counts = set()
        for text in self.texts(25):
            right = trying.right_orders(text)
            self.assertEqual(list(orders(text)), right, text.steps)
            self.assertEqual(count_orders(text), len(right))
            counts.add(len(right))
            dice = random.Random(len(right))
            for number in dice.sample(range(len(right)), min(3, len(right))):
                self.assertEqual(order_at(text, number), right[number])
                self.assertEqual(number_of(text, right[number]), number)
            with self.assertRaises(NoOrder):
                order_at(text, len(right))
        self.assertGreater(len(counts), 15)

    def test_the_first_pair_that_is_not_kept(self):
        for text in self.texts(6):
            bound = binding(text)
            right = trying.right_orders(text)
            every = list(itertools.permutations(range(len(text))))
            for order in random.Random(0).sample(every, min(12, len(every))):
                wrong = [(i, j) for i, j in bound if order.index(j) < order.index(i)]
                self.assertEqual(turned_pair(text, order), wrong[0] if wrong else None)
                self.assertEqual(not wrong, order in right)

    def test_the_turned_text_does_the_same(self):
        for text in self.texts(20):
            right = list(orders(text))
            for order in random.Random(1).sample(right, min(4, len(right))):
                again = turned(text, order)
                self.assertEqual(layings(again), layings(text))
                for laying in layings(text, lawful=True):
                    self.check_run(text, again, order, laying)
                pairs = {(order.index(i), order.index(j)) for i, j, _ in meets(text)}
                self.assertLessEqual(pairs, {row[:2] for row in meets(again)}, (text.steps, order))

    def check_run(self, text, again, order, laying):
        run, other = Run(text, laying), Run(again, laying)
        self.assertTrue(other.lawful, (text.steps, order))
        # Only the numbers of things that came in may differ, each in one way.
        known, back = {}, {}

        def same(one, two):
            if isinstance(one, tuple) and one[0] == "first" and isinstance(one[1], int):
                self.assertEqual((two[0], type(two[1])), ("first", int))
                self.assertEqual((known.setdefault(one, two), back.setdefault(two, one)), (two, one))
            else:
                self.assertEqual(one, two)

        for k, step in enumerate(text.steps):
            if step[0] == "read":
                one, two = run.found(k), other.found(order.index(k))
                self.assertEqual(one[0], two[0])
                same(one, ("write", order[two[1]]) if two[0] == "write" else two)
        self.assertEqual(len(run.told()), len(other.told()))
        for one, two in zip(run.told(), other.told()):
            same(one, two)
        self.assertEqual(run.end().keys(), other.end().keys())
        for byte, load in run.end().items():
            two = other.end()[byte]
            if load is None or load[0] == "first":
                self.assertEqual(load, two)
            else:
                self.assertEqual(load[:2], two[:2])
                same(load[2], two[2])


if __name__ == "__main__":
    unittest.main()
