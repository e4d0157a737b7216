"""Layings: points [8], [9] and [10]."""

import copy
import itertools
import unittest

import oracle
from lastkind.layings import is_laying, layings
from lastkind.runs import Run
from lastkind.texts import Text
from values import OTHERS

EXAMPLE = Text((), ("p", "q"), (("read", "x", "int4", "p", 0), ("write", "half2", "q", 0, 1)))
IN_ORDER = [(None, None)] + [(None, ("p", d)) for d in (0, -1, 1, 2, 3)]


def blanks(places, pointers, **stretches):
    """A text in which each name is used at some stretches of bytes: tuples (offset, how many)."""
    return Text(places, pointers, tuple([
        ("blank", many, name, first) for name, rows in stretches.items() for first, many in rows]))


class Two(unittest.TestCase):
    def test_the_example(self):
        self.assertEqual(layings(EXAMPLE), IN_ORDER)

    def test_no_name(self):
        self.assertEqual(layings(Text()), [()])
        self.assertEqual(layings(Text(), lawful=True), [()])

    def test_one_name(self):
        self.assertEqual(layings(Text((), ("p",))), [(None,)])
        self.assertEqual(layings(blanks((), ("p",), p=[(0, 8)])), [(None,)])
        self.assertEqual(layings(Text((("a", "int4"),))), [(None,)])

    def test_a_pointer_that_no_step_uses(self):
        self.assertEqual(layings(Text((), ("p", "q", "r"))), [(None, None, None)])
        self.assertEqual(layings(blanks((), ("p", "q"), p=[(0, 8)])), [(None, None)])
        self.assertEqual(layings(blanks((), ("p", "q"), q=[(0, 8)])), [(None, None)])
        self.assertEqual(layings(Text((("a", "int4"),), ("p",))), [(None, None)])
        found = layings(blanks((), ("p", "q", "r"), p=[(0, 1)], r=[(0, 1)]))
        self.assertEqual(found, [(None, None, None), (None, None, ("p", 0))])

    def test_a_tell_uses_no_byte(self):
        text = Text((), ("p", "q"), (("read", "x", "c1", "p", 0), ("tell", "x")))
        self.assertEqual(layings(text), [(None, None)])

    def test_stretches_of_each_size_at_unlike_offsets(self):
        sizes = [(first, many) for many in range(1, 9) for first in {0, 8 - many, (8 - many) // 2}]
        for one, other in itertools.product(sizes, repeat=2):
            least, most = one[0] - other[0] - other[1] + 1, one[0] + one[1] - 1 - other[0]
            distances = sorted(range(least, most + 1), key=lambda d: (abs(d), d))
            wanted = [(None, None)] + [(None, ("p", d)) for d in distances]
            self.assertEqual(layings(blanks((), ("p", "q"), p=[one], q=[other])), wanted)

    def test_each_word_of_a_step_uses_its_bytes(self):
        read = ("read", "x", "int4", "p", 2)
        steps = {
            (2, 4): [read],
            (4, 2): [("write", "half2", "p", 4, 7)],
            (0, 3): [("copy", 3, "p", 0, "p", 0)],
            (1, 7): [("copy", 7, "p", 1, "p", 1)],
            (5, 3): [("blank", 3, "p", 5)],
        }
        for (first, many), rows in steps.items():
            text = Text((), ("p", "q"), (*rows, ("blank", 1, "q", 0)))
            self.assertEqual({laying[1][1] for laying in layings(text)[1:]}, set(range(first, first + many)))

    def test_both_ends_of_a_copy(self):
        text = Text((), ("p", "q"), (("copy", 2, "p", 0, "q", 3),))
        self.assertEqual(layings(text), [(None, None)] + [(None, ("p", d)) for d in (-2, -3, -4)])
        text = Text((), ("p", "q"), (("copy", 1, "p", 0, "p", 5), ("blank", 1, "q", 0)))
        self.assertEqual(layings(text), [(None, None), (None, ("p", 0)), (None, ("p", 5))])

    def test_bytes_with_others_between(self):
        text = blanks((), ("p", "q"), p=[(0, 1), (7, 1)], q=[(2, 1)])
        self.assertEqual(layings(text), [(None, None), (None, ("p", -2)), (None, ("p", 5))])
        text = blanks((), ("p", "q"), p=[(0, 1), (3, 1)], q=[(0, 1), (3, 1)])
        self.assertEqual(layings(text), [(None, None)] + [(None, ("p", d)) for d in (0, -3, 3)])


class More(unittest.TestCase):
    def test_three_single_bytes(self):
        text = blanks((), ("p", "q", "r"), p=[(0, 1)], q=[(1, 1)], r=[(3, 1)])
        self.assertEqual(layings(text), [
            (None, None, None), (None, ("p", -1), None), (None, None, ("q", -2)), (None, None, ("p", -3)),
            (None, ("p", -1), ("p", -3))])

    def test_a_chain_in_which_each_name_touches_only_the_next_one(self):
        text = blanks((), ("p", "q", "r"), p=[(0, 1)], q=[(0, 1), (5, 1)], r=[(0, 1)])
        self.assertEqual(layings(text), [
            (None, None, None),
            (None, None, ("p", 0)), (None, None, ("q", 0)), (None, ("p", 0), None),
            (None, None, ("q", 5)), (None, ("p", -5), None),
            (None, ("p", 0), ("p", 0)),
            (None, ("p", -5), ("p", 0)), (None, ("p", 0), ("p", 5)), (None, ("p", -5), ("p", -5))])

    def test_a_chain_over_four_names(self):
        text = blanks((("a", "c1"),), ("p", "q", "r"), p=[(0, 1), (7, 1)], q=[(0, 1), (7, 1)], r=[(0, 1), (7, 1)])
        found = layings(text)
        self.assertEqual(found, oracle.layings(text, range(-21, 22, 7)))
        for laying in [(None, ("a", 0), ("a", 7), ("a", 14)), (None, ("a", 7), ("a", 14), ("a", 0)),
                       (None, ("a", -7), ("a", -14), ("a", -21)), (None, ("a", -21), ("a", -7), ("a", -14))]:
            self.assertIn(laying, found)
            self.assertIs(is_laying(text, laying), True)
        for laying in [(None, ("a", 0), ("a", 14), ("a", 21)), (None, ("a", -21), ("a", -14), None),
                       (None, ("a", 7), ("a", 14), ("a", 21)), (None, None, ("p", 14), ("p", -7))]:
            self.assertNotIn(laying, found)
            self.assertIs(is_laying(text, laying), False)

    def test_the_first_name_of_a_heap_may_touch_only_the_last(self):
        text = blanks((), ("p", "q", "r"), p=[(0, 1)], q=[(0, 1)], r=[(0, 1), (7, 1)])
        for laying in [(None, ("p", 7), ("p", 0)), (None, ("p", -7), ("p", -7)), (None, None, ("q", -7))]:
            self.assertIn(laying, layings(text))
            self.assertIs(is_laying(text, laying), True)
        for laying in [(None, ("p", 7), None), (None, ("p", -7), None)]:
            self.assertNotIn(laying, layings(text))

    def test_names_that_nothing_connects_touch_in_no_laying(self):
        text = blanks((), ("p", "q", "r"), p=[(0, 2)], q=[(0, 2)], r=[(0, 2)])
        self.assertEqual(layings(text), oracle.layings(text, range(-4, 5)))
        for laying in [(None, ("p", 2), None), (None, ("p", 0), ("q", 0)), (None, ("p", 1), ("p", 3))]:
            self.assertNotIn(laying, layings(text))

    def test_a_place_alone(self):
        for kind, size in [("c1", 1), ("half2", 2), ("rgb3", 3), ("int4", 4)]:
            text = blanks((("a", kind),), ("p",), p=[(1, 2)])
            self.assertEqual({laying[1][1] for laying in layings(text)[1:]}, set(range(-2, size - 1)))
            self.assertEqual(layings(text), oracle.layings(text, range(-9, 10)))

    def test_a_place_that_is_used_behind_its_block(self):
        text = blanks((("a", "half2"),), ("p",), a=[(6, 2)], p=[(0, 1)])
        self.assertEqual(layings(text), [(None, None)] + [(None, ("a", d)) for d in (0, 1, 6, 7)])

    def test_two_places_lie_in_no_heap(self):
        places = (("a", "half2"), ("b", "half2"))
        self.assertEqual(layings(Text(places)), [(None, None)])
        text = blanks(places, ("p",), a=[(0, 8)], b=[(0, 8)], p=[(0, 1)])
        wanted = [(None, None, None)]
        for d in range(8):
            wanted += [(None, None, ("a", d)), (None, None, ("b", d))]
        self.assertEqual(layings(text), wanted)
        text = blanks(places, ("p", "q"), p=[(0, 2)], q=[(0, 2)])
        found = layings(text)
        self.assertEqual(found, oracle.layings(text, range(-4, 5)))
        self.assertTrue(all(laying[0] is None and laying[1] is None for laying in found))
        self.assertIn((None, None, ("a", 1), ("b", 0)), found)
        self.assertIn((None, None, ("b", 1), ("b", 2)), found)

    def test_each_text_against_trying_all_tuples(self):
        for seed in range(60):
            for text in [oracle.made_text(seed, places=2, pointers=2, width=4),
                         oracle.made_text(seed, places=1, pointers=2, width=3)]:
                self.assertEqual(layings(text), oracle.layings(text, range(-8, 9)), text.steps)
        for seed in range(12):
            text = oracle.made_text(seed, places=0, pointers=3, width=5)
            self.assertEqual(layings(text), oracle.layings(text, range(-8, 9)), text.steps)


class Order(unittest.TestCase):
    def test_fewer_entries_come_first_whatever_the_distances(self):
        text = blanks((), ("p", "q", "r"), p=[(7, 1)], q=[(0, 1)], r=[(0, 1), (7, 1)])
        self.assertEqual(layings(text), [
            (None, None, None), (None, None, ("p", 0)), (None, None, ("q", 0)),
            (None, None, ("p", 7)), (None, None, ("q", -7)), (None, ("p", 7), None),
            (None, ("p", 0), ("p", 0)), (None, ("p", 7), ("p", 0)), (None, ("p", 7), ("p", 7)),
            (None, ("p", 14), ("p", 7))])

    def test_a_smaller_sum_of_absolute_distances_comes_next(self):
        text = blanks((), ("p", "q", "r"), p=[(0, 3)], q=[(0, 1)], r=[(0, 1)])
        sums = [sum(abs(entry[1]) for entry in laying if entry) for laying in layings(text) if None not in laying[1:]]
        self.assertEqual(sums, sorted(sums))
        found = layings(text)
        self.assertLess(found.index((None, ("p", 1), ("p", 1))), found.index((None, ("p", 2), ("p", 1))))
        self.assertLess(found.index((None, ("p", 0), ("p", 2))), found.index((None, ("p", 1), ("p", 1))))

    def test_then_the_tuples_count(self):
        text = blanks((), ("r", "q", "p"), r=[(0, 1)], q=[(0, 1)], p=[(0, 1)])
        self.assertEqual(layings(text), [
            (None, None, None), (None, None, ("q", 0)), (None, None, ("r", 0)), (None, ("r", 0), None),
            (None, ("r", 0), ("r", 0))])
        text = blanks((), ("p", "q"), p=[(1, 1)], q=[(0, 3)])
        self.assertEqual(layings(text)[1:], [(None, ("p", d)) for d in (0, -1, 1)])


class Results(unittest.TestCase):
    def test_the_list_is_new_each_time(self):
        for lawful in (False, True):
            found = layings(EXAMPLE, lawful=lawful)
            found.append(None)
            del found[0]
            self.assertEqual(layings(EXAMPLE, lawful=lawful), IN_ORDER)
            self.assertIs(type(layings(EXAMPLE, lawful=lawful)), list)

    def test_names_of_the_parameters(self):
        self.assertEqual(layings(text=EXAMPLE, lawful=False), IN_ORDER)
        self.assertIs(is_laying(text=EXAMPLE, thing=(None, None)), True)
        with self.assertRaises(TypeError):
            layings(EXAMPLE, True)

    def test_the_text_does_not_change(self):
        before = (EXAMPLE.places, EXAMPLE.pointers, EXAMPLE.steps)
        layings(EXAMPLE, lawful=True)
        is_laying(EXAMPLE, (None, ("p", 0)))
        self.assertEqual((EXAMPLE.places, EXAMPLE.pointers, EXAMPLE.steps), before)


class Lawful(unittest.TestCase):
    def check(self, text):
        wanted = [laying for laying in layings(text) if Run(text, laying).lawful]
        self.assertEqual(layings(text, lawful=True), wanted)
        return wanted

    def test_some_of_them(self):
        text = Text.read("pointer p\npointer q\nwrite int4 p+0 7\nread x int4 q+0")
        self.assertEqual(self.check(text), [(None, None), (None, ("p", 0))])
        self.assertEqual(len(layings(text)), 8)

    def test_all_of_them(self):
        self.assertEqual(self.check(EXAMPLE), IN_ORDER)

    def test_none_of_them(self):
        text = Text.read("pointer p\npointer q\nwrite int4 p+0 7\nread x half2 p+0\nblank 1 q+0")
        self.assertEqual(self.check(text), [])
        self.assertEqual(len(layings(text)), 5)

    def test_not_even_the_one_in_which_nothing_touches(self):
        text = Text.read("pointer p\npointer q\nblank 2 p+0\nwrite half2 q+0 7\nread x half2 p+0")
        self.assertEqual(self.check(text), [(None, ("p", 0))])

    def test_made_texts(self):
        for seed in range(150):
            self.check(oracle.made_text(seed))
            self.check(oracle.made_text(seed, places=0, kinds=("half2",), steps=7))


class AnyValue(unittest.TestCase):
    TEXTS = [
        EXAMPLE,
        Text(),
        Text((("a", "c1"),)),
        blanks((("a", "half2"),), ("p", "q"), p=[(0, 1)], q=[(0, 2)]),
        blanks((("a", "c1"), ("b", "half2")), ("p",), p=[(0, 1), (3, 1)]),
        blanks((), ("p", "q", "r"), p=[(0, 1)], q=[(0, 1)], r=[(0, 2)]),
    ]

    def check(self, text, found, thing):
        """Beside equality this asks for tuples and integers: the texts of other values differ."""
        before = copy.deepcopy(thing)
        self.assertIs(is_laying(text, thing), repr(thing) in found, thing)
        self.assertEqual(thing, before)

    def test_each_laying(self):
        for text in self.TEXTS:
            for laying in layings(text):
                self.assertIs(is_laying(text, laying), True)

    def test_one_entry_otherwise(self):
        for text in self.TEXTS:
            found = [repr(laying) for laying in layings(text)]
            entries = [None, (), 0, True, False, "p", ("p",), (0, "p"), ("p", None), (None, 0), ("p", "0"), ("x", 0),
                       ("p", (0,)), (("p",), 0), (True, 0), ("p", True), ("p", False), ("", 0), ("p", 10 ** 59), ([], 0),
                       (["p"], 0), ((), 0), ("p", []), ([], [])]
            entries += [(name, d) for name in text.names() for d in (-2, -1, 0, 1, 2)]
            entries += [[name, 0] for name in text.names()] + [(name, 0, 0) for name in text.names()]
            entries += [(name, flag) for name in text.names() for flag in (True, False)]
            for laying in layings(text):
                for k in range(len(laying)):
                    for entry in entries:
                        self.check(text, found, (*laying[:k], entry, *laying[k + 1:]))

    def test_two_entries_otherwise(self):
        text = self.TEXTS[-1]
        found = [repr(laying) for laying in layings(text)]
        entries = [None] + [(name, d) for name in "pqr" for d in range(-3, 4)]
        for one, other in itertools.product(entries, repeat=2):
            self.check(text, found, (None, one, other))
            self.check(text, found, (("p", 0), one, other))

    def test_too_short_or_too_long_or_a_list(self):
        for text in self.TEXTS:
            found = [repr(laying) for laying in layings(text)]
            for laying in layings(text):
                for k in range(len(laying)):
                    self.check(text, found, laying[:k] + laying[k + 1:])
                for entry in [None, ("p", 0), ()]:
                    self.check(text, found, (*laying, entry))
                self.check(text, found, list(laying))
                self.check(text, found, [list(entry) if entry else None for entry in laying])
                self.check(text, found, (laying,))
                self.check(text, found, tuple(list(entry) if entry else None for entry in laying + (("p", 0),)))

    def test_other_values(self):
        for text in self.TEXTS:
            found = [repr(laying) for laying in layings(text)]
            for thing in OTHERS + ["", "p", 0, 1, -1, 10 ** 59, text, [None, None], (None,) * 7, ("p", "q"), (0, 0),
                                   ((), ()), (False, False), (None, ()), ((), None), ("p", ("p", 0))]:
                self.assertIs(is_laying(text, thing), repr(thing) in found, thing)

    def test_an_entry_names_the_first_name_of_its_heap(self):
        text = blanks((), ("p", "q", "r"), p=[(0, 1)], q=[(0, 1)], r=[(0, 1)])
        for thing, wanted in [
                ((None, ("p", 0), ("p", 0)), True), ((None, ("p", 0), ("q", 0)), False),
                ((None, None, ("q", 0)), True), ((None, None, ("r", 0)), False),
                ((None, ("r", 0), None), False), ((("p", 0), None, None), False),
                ((("q", 0), None, None), False), ((None, ("q", 0), None), False)]:
            self.assertIs(is_laying(text, thing), wanted, thing)

    def test_names_that_touch_but_are_said_to_lie_apart_from_their_heap(self):
        text = blanks((), ("p", "q"), p=[(0, 2)], q=[(0, 2)])
        for d in (-3, -2, 2, 3, 100, -10 ** 59):
            self.assertIs(is_laying(text, (None, ("p", d))), False)
        for d in (-1, 0, 1):
            self.assertIs(is_laying(text, (None, ("p", d))), True)


if __name__ == "__main__":
    unittest.main()
