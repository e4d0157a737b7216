"""What can be asked of a Text: its length, steps, names, equality, and one step more."""

import copy
import unittest

from lastkind.errors import BadText, KindError, NoStep
from lastkind.texts import Text
from values import OTHERS

PLACES = (("a", "int4"), ("b", "half2"))
POINTERS = ("p", "q")
STEPS = (
    ("read", "x", "int4", "a", 0),
    ("write", "half2", "q", 6, "x"),
    ("read", "y", "c1", "p", 7),
    ("tell", "y"),
)


def made():
    return Text(PLACES, POINTERS, STEPS)


class Steps(unittest.TestCase):
    def test_length(self):
        self.assertEqual(len(Text()), 0)
        self.assertEqual(len(Text(PLACES, POINTERS)), 0)
        self.assertEqual(len(made()), 4)

    def test_steps_by_index(self):
        text = made()
        for at, step in enumerate(STEPS):
            self.assertEqual(text[at], step)

    def refused(self, text, at):
        with self.assertRaises(NoStep) as caught:
            text[at]
        self.assertIs(caught.exception.index, at)
        self.assertIsInstance(caught.exception, IndexError)
        self.assertNotIsInstance(caught.exception, KindError)

    def test_no_such_step(self):
        for at in [-1, -2, -4, -5, 4, 5, 12, 10 ** 59, -10 ** 59]:
            self.refused(made(), at)
        for at in [0, -1, 1]:
            self.refused(Text(), at)

    def test_other_values(self):
        for at in OTHERS + ["", "0", "x", "a", STEPS[0], slice(0, 1)]:
            self.refused(made(), at)
            self.refused(Text(), at)

    def test_a_text_is_not_iterated_over(self):
        with self.assertRaises(TypeError):
            list(made())


class Names(unittest.TestCase):
    def test_names(self):
        self.assertEqual(made().names(), ("a", "b", "p", "q"))
        self.assertEqual(Text((), ("q", "p")).names(), ("q", "p"))
        self.assertEqual(Text((("z", "int4"), ("a", "int4"))).names(), ("z", "a"))
        self.assertEqual(Text().names(), ())
        self.assertIs(type(made().names()), tuple)

    def test_in(self):
        for name in ["a", "b", "p", "q", "x", "y"]:
            self.assertIs(name in made(), True, name)
            self.assertIs(name in Text(), False, name)

    def test_not_in(self):
        others = ["", "z", "ab", "xy", "int4", "half2", "c1", "read", "tell", "write", "A",
                  0, 1, 7, 10 ** 59, PLACES[0], STEPS[0], PLACES, POINTERS, STEPS, ("x",), ["x"]]
        for thing in others + OTHERS:
            self.assertIs(thing in made(), False, thing)
        self.assertIs(made() in made(), False)

    def test_a_value_that_is_only_told_or_written_is_no_name(self):
        text = Text((), ("p",), (("write", "int4", "p", 0, 7), ("blank", 1, "p", 0)))
        for thing in [7, "int4", 0, 1]:
            self.assertIs(thing in text, False)


class Equality(unittest.TestCase):
    def check(self, one, other, wanted):
        self.assertIs(one == other, wanted)
        self.assertIs(other == one, wanted)
        self.assertIs(one != other, not wanted)

    def test_equal_texts(self):
        self.check(made(), made(), True)
        self.check(Text(), Text((), (), ()), True)
        text = made()
        self.check(text, text, True)

    def test_texts_that_differ_in_one_part(self):
        self.check(made(), Text(PLACES[::-1], POINTERS, STEPS), False)
        self.check(made(), Text((PLACES[0], ("b", "word2")), POINTERS, STEPS), False)
        self.check(made(), Text(PLACES, POINTERS[::-1], STEPS), False)
        self.check(made(), Text(PLACES, POINTERS, STEPS[:-1]), False)
        self.check(made(), Text(PLACES, POINTERS, (*STEPS, STEPS[-1])), False)
        self.check(made(), Text(PLACES, POINTERS, (*STEPS[:-1], ("tell", "x"))), False)
        self.check(Text(PLACES), Text(), False)
        self.check(Text((), POINTERS), Text(), False)
        self.check(Text((), ("p",), (("blank", 1, "p", 0),)), Text((), ("p",)), False)

    def test_what_is_no_text(self):
        for thing in OTHERS + [0, "", STEPS, (PLACES, POINTERS, STEPS)]:
            self.check(made(), thing, False)
            self.check(Text(), thing, False)


class WithStep(unittest.TestCase):
    def refused(self, text, step):
        before = copy.deepcopy((text.places, text.pointers, text.steps, step))
        with self.assertRaises(BadText) as caught:
            text.with_step(step)
        self.assertEqual((caught.exception.part, caught.exception.index), ("steps", len(text)))
        self.assertEqual((text.places, text.pointers, text.steps, step), before)

    def test_good_steps(self):
        good = [
            ("read", "z", "int4", "p", 4), ("write", "half2", "b", 0, 10 ** 40 - 1),
            ("write", "c1", "q", 7, "y"), ("copy", 4, "q", 4, "a", 0), ("blank", 8, "p", 0),
            ("tell", "x"),
        ]
        for step in good:
            text = made()
            self.assertEqual(text.with_step(step), Text(PLACES, POINTERS, (*STEPS, step)))
            self.assertEqual(text, made())

    def test_by_name(self):
        self.assertEqual(made().with_step(step=("tell", "x"))[4], ("tell", "x"))
        with self.assertRaises(BadText):
            made().with_step(step=None)

    def test_steps_that_cannot_stand_there(self):
        wrong = OTHERS + [
            0, "tell x", ["tell", "x"], ("tell",), ("tell", "z"), ("tell", "p"),
            ("read", "x", "int4", "p", 0), ("read", "a", "int4", "p", 0),
            ("read", "q", "int4", "p", 0), ("read", "z", "int4", "p", 5),
            ("read", "z", "int4", "r", 0), ("write", "int5", "p", 0, 1),
            ("write", "int4", "p", 0, 10 ** 40), ("write", "int4", "p", 0, "z"),
            ("write", "int4", "p", 0, True), ("copy", 4, "p", 5, "q", 0),
            ("copy", 4, "p", 0, "q", 5), ("copy", 4, "p", 0, "x", 0), ("blank", 9, "p", 0),
            ("blank", 8, "p", 1), ("blank", 0, "p", 0), ("blank", 1, "p", [0]),
        ]
        for step in wrong:
            self.refused(made(), step)
            self.refused(Text(), step)

    def test_twelve_steps(self):
        step = ("blank", 1, "p", 0)
        text = Text((), ("p",))
        for _ in range(12):
            text = text.with_step(step)
        self.assertEqual(text, Text((), ("p",), (step,) * 12))
        self.refused(text, step)
        self.refused(text, None)


if __name__ == "__main__":
    unittest.main()
