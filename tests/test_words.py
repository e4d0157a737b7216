"""Names, kinds and sizes: point [4]."""

import unittest

from lastkind.words import is_kind, is_name, size_of
from values import OTHERS

NAMES = ["p", "a", "z", "x1", "p0", "a9z", "abcdefgh", "a1234567", "aaaaaaa9", "place", "read"]
NO_NAMES = [
    "", "abcdefghi", "a12345678", "1", "0a", "9p", "P", "pQ", "aZb", "_", "_a", "a_", "a_b",
    "a\n", "\n", "\na", "a b", " a", "a ", "a+0", "a-", "a.b", "`", "{", "a`", "a{", "a/", "a:",
    "@", "a" * 2000,
]
KINDS = [
    "a1", "z4", "int4", "half2", "abcdef1", "abcdef2", "abcdef3", "abcdef4", "a2", "a3", "int1",
]
NO_KINDS = [
    "", "1", "4", "a", "int", "abcdef", "abcdefg", "abcdefg1", "abcdefg4", "int0", "int5", "int9",
    "a0", "a5", "int12", "a11", "a44", "1a", "4int", "in4t", "a1b2", "Int4", "iNt4", "INT4",
    "int_4", "_int4", "int4_", "int4\n", "int\n4", "\nint4", " int4", "int4 ", "int 4", "int-4",
    "int+4", "int4+", "i`4", "i{4", "a" * 1999 + "4",
]


class Names(unittest.TestCase):
    def test_names(self):
        for name in NAMES:
            self.assertIs(is_name(name), True, name)

    def test_other_strings(self):
        for name in NO_NAMES:
            self.assertIs(is_name(name), False, name)

    def test_kinds_are_names_if_short_enough(self):
        self.assertIs(is_name("int4"), True)

    def test_each_single_character(self):
        for sign in [chr(code) for code in range(32, 127)]:
            self.assertIs(is_name(sign), sign in "abcdefghijklmnopqrstuvwxyz", sign)
            second = "abcdefghijklmnopqrstuvwxyz0123456789"
            self.assertIs(is_name("a" + sign), sign in second, sign)
            self.assertIs(is_name("abcdefg" + sign), sign in second, sign)

    def test_other_values(self):
        for thing in OTHERS + [0, 1, -1, 10 ** 59]:
            self.assertIs(is_name(thing), False, thing)

    def test_characters_beyond_ascii(self):
        for name in ["\u00e9", "a\u00e9", "a\u0663", "\u00aa"]:
            self.assertIs(is_name(name), False)

    def test_by_name(self):
        self.assertIs(is_name(thing="p"), True)
        self.assertIs(is_name(thing="P"), False)


class Kinds(unittest.TestCase):
    def test_kinds(self):
        for kind in KINDS:
            self.assertIs(is_kind(kind), True, kind)

    def test_other_strings(self):
        for kind in NO_KINDS:
            self.assertIs(is_kind(kind), False, kind)

    def test_each_single_character(self):
        letters = "abcdefghijklmnopqrstuvwxyz"
        for sign in [chr(code) for code in range(32, 127)]:
            self.assertIs(is_kind(sign), False, sign)
            self.assertIs(is_kind("a" + sign), sign in "1234", sign)
            self.assertIs(is_kind(sign + "1"), sign in letters, sign)
            self.assertIs(is_kind("ab" + sign + "d2"), sign in letters, sign)

    def test_other_values(self):
        for thing in OTHERS + [0, 1, 4, -1, 10 ** 59, ("int4",), ["a", "1"], ("a", "1")]:
            self.assertIs(is_kind(thing), False, thing)

    def test_characters_beyond_ascii(self):
        for kind in ["\u00e91", "a\u0661", "a\u00b2"]:
            self.assertIs(is_kind(kind), False)

    def test_by_name(self):
        self.assertIs(is_kind(thing="int4"), True)
        self.assertIs(is_kind(thing="int"), False)


class Sizes(unittest.TestCase):
    def test_size_is_the_digit(self):
        for kind, size in [("a1", 1), ("half2", 2), ("abcdef3", 3), ("int4", 4)]:
            self.assertEqual(size_of(kind), size)
            self.assertIs(type(size_of(kind)), int)

    def test_by_name(self):
        self.assertEqual(size_of(kind="int4"), 4)


if __name__ == "__main__":
    unittest.main()
