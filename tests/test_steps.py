"""The forms of steps: point [5]."""

import copy
import unittest

from lastkind.steps import is_step
from values import OTHERS

READ = ("read", "x", "int4", "p", 0)
WRITE = ("write", "half2", "q", 4, -7)
WRITE_NAMED = ("write", "half2", "q", 4, "x")
COPY = ("copy", 8, "p", 0, "q", 7)
BLANK = ("blank", 1, "p", 7)
TELL = ("tell", "x")
STEPS = [READ, WRITE, WRITE_NAMED, COPY, BLANK, TELL]

# The places of the parts of each role in the steps above.
WORDS = [(step, 0) for step in STEPS]
NAMES = [(READ, 1), (READ, 3), (WRITE, 2), (COPY, 2), (COPY, 4), (BLANK, 2), (TELL, 1)]
KINDS = [(READ, 2), (WRITE, 1)]
OFFSETS = [(READ, 4), (WRITE, 3), (COPY, 3), (COPY, 5), (BLANK, 3)]
COUNTS = [(COPY, 1), (BLANK, 1)]
VALUES = [(WRITE, 4), (WRITE_NAMED, 4)]

BAD_NAMES = ["", "1p", "P", "a_b", "p\n", "abcdefghi", 0, 1] + OTHERS
BAD_KINDS = ["", "int", "int0", "int5", "4", "abcdefg1", "int4\n", 4] + OTHERS
NUMBERS = [*range(-2, 12), 10 ** 59, -10 ** 59]
NO_NUMBERS = ["", "p", "1", "x1"] + OTHERS
GOOD_VALUES = [
    0, 1, -1, 10 ** 40 - 1, 1 - 10 ** 40, 10 ** 39, -10 ** 39, "x", "abcdefgh", "x1",
]
BAD_VALUES = [
    10 ** 40, -10 ** 40, 10 ** 40 + 1, 10 ** 41 - 1, 10 ** 59, -10 ** 59, "", "1", "-1", "X",
    "abcdefghi", "x\n",
] + OTHERS


def changed(step, at, part):
    return step[:at] + (part,) + step[at + 1:]


class Forms(unittest.TestCase):
    def check(self, thing, wanted):
        self.assertIs(is_step(thing), wanted, thing)

    def check_parts(self, places, good, bad):
        for step, at in places:
            for part in good:
                self.check(changed(step, at, part), True)
            for part in bad:
                self.check(changed(step, at, part), False)

    def test_each_form(self):
        for step in STEPS:
            self.check(step, True)

    def test_names_and_values_need_not_be_known(self):
        self.check(("read", "p", "int4", "p", 7), True)
        self.check(("copy", 8, "p", 7, "p", 7), True)
        self.check(("blank", 8, "p", 7), True)
        self.check(("tell", "nobody"), True)

    def test_words(self):
        bad = ["", "Read", "read ", "reads", "place", "pointer", "x", 0, None, True, ("read",),
               ["read"], (["read"],), ([],)]
        self.check_parts(WORDS, [], bad)

    def test_words_of_other_forms(self):
        words = ["read", "write", "copy", "blank", "tell"]
        for step in STEPS:
            self.check_parts([(step, 0)], [], [word for word in words if word != step[0]])

    def test_names(self):
        self.check_parts(NAMES, ["a", "z9", "abcdefgh"], BAD_NAMES)

    def test_kinds(self):
        self.check_parts(KINDS, ["a1", "b2", "c3", "abcdef4"], BAD_KINDS)

    def test_offsets(self):
        good = [number for number in NUMBERS if 0 <= number <= 7]
        bad = [number for number in NUMBERS if not 0 <= number <= 7]
        self.check_parts(OFFSETS, good, bad + NO_NUMBERS)

    def test_numbers_of_bytes(self):
        good = [number for number in NUMBERS if 1 <= number <= 8]
        bad = [number for number in NUMBERS if not 1 <= number <= 8]
        self.check_parts(COUNTS, good, bad + NO_NUMBERS)

    def test_values(self):
        self.check_parts(VALUES, GOOD_VALUES, BAD_VALUES)

    def test_a_part_left_out(self):
        for step in STEPS:
            for at in range(len(step)):
                self.check(step[:at] + step[at + 1:], False)
        self.check((), False)

    def test_a_part_too_many(self):
        for step in STEPS:
            for at in range(len(step) + 1):
                for part in [step[at - 1], "x", 0, None, "int4"]:
                    self.check(step[:at] + (part,) + step[at:], False)

    def test_lists_in_the_place_of_tuples(self):
        for step in STEPS:
            self.check(list(step), False)
            self.check([step], False)
            self.check((step,), False)
            for at in range(len(step)):
                self.check(changed(step, at, [step[at]]), False)
                self.check(changed(step, at, (step[at],)), False)

    def test_values_that_are_no_tuples(self):
        for thing in OTHERS + ["", "tell", "tell x", "read", 0, 1, 10 ** 59]:
            self.check(thing, False)

    def test_by_name(self):
        self.assertIs(is_step(thing=READ), True)
        self.assertIs(is_step(thing=READ[:-1]), False)

    def test_the_argument_does_not_change(self):
        thing = ["read", ["x"], {"p": [1]}]
        for given in [thing, tuple(thing), ("read", ["x"], "int4", [], 0)]:
            before = copy.deepcopy(given)
            is_step(given)
            self.assertEqual(given, before)


if __name__ == "__main__":
    unittest.main()
