"""How a note is read: point [7]."""

import unittest

from lastkind.errors import BadNote, KindError
from lastkind.notes import read_text
from lastkind.texts import Text
from values import OTHERS, line_of, note_of

EXAMPLE = "pointer p\nread x int4 p+0\nwrite half2 p+4 -7\ntell x"
PLACES = (("a", "int4"), ("b", "half2"))
POINTERS = ("p", "q")
STEPS = (
    ("read", "x", "int4", "a", 0),
    ("write", "half2", "q", 6, "x"),
    ("copy", 3, "p", 5, "b", 0),
    ("blank", 8, "p", 0),
    ("tell", "x"),
)
HEAD = "place a int4\nplace b half2\npointer p\npointer q\nread x int4 a+0"


class Good(unittest.TestCase):
    def check(self, note, text):
        for read in (read_text, Text.read):
            got = read(note)
            self.assertIs(type(got), Text)
            self.assertEqual(got, text)
        self.assertEqual(note_of(text), note)

    def test_the_example(self):
        steps = (("read", "x", "int4", "p", 0), ("write", "half2", "p", 4, -7), ("tell", "x"))
        self.check(EXAMPLE, Text((), ("p",), steps))

    def test_the_empty_note(self):
        self.check("", Text())

    def test_each_form_of_line(self):
        note = ("place a int4\nplace b half2\npointer p\npointer q\nread x int4 a+0\n"
                "write half2 q+6 x\ncopy 3 p+5 b+0\nblank 8 p+0\ntell x")
        self.check(note, Text(PLACES, POINTERS, STEPS))

    def test_parts_alone(self):
        self.check("place a int4", Text((("a", "int4"),)))
        self.check("place a int4\nplace b half2", Text(PLACES))
        self.check("pointer p\npointer q\npointer r", Text((), ("p", "q", "r")))
        self.check("place a c1\nblank 1 a+7", Text((("a", "c1"),), (), (("blank", 1, "a", 7),)))

    def test_names_like_the_words_of_lines(self):
        steps = (("read", "tell", "read4", "write", 0), ("tell", "tell"))
        self.check("place place place1\npointer write\nread tell read4 write+0\ntell tell",
                   Text((("place", "place1"),), ("write",), steps))

    def test_values(self):
        for value in [0, 1, 9, 10, -1, -10, 100, 10 ** 39, 10 ** 40 - 1, 1 - 10 ** 40]:
            self.check(f"pointer p\nwrite int4 p+0 {value}",
                       Text((), ("p",), (("write", "int4", "p", 0, value),)))

    def test_twelve_steps(self):
        self.check("pointer p" + "\nblank 1 p+0" * 12,
                   Text((), ("p",), (("blank", 1, "p", 0),) * 12))

    def test_each_step_of_two_bytes(self):
        for many in range(1, 9):
            for first in range(9 - many):
                for second in range(9 - many):
                    step = ("copy", many, "p", first, "q", second)
                    self.check("pointer p\npointer q\n" + line_of(step), Text((), ("p", "q"), (step,)))

    def test_by_name(self):
        self.assertEqual(read_text(note=EXAMPLE), read_text(EXAMPLE))
        self.assertEqual(Text.read(note=EXAMPLE), read_text(EXAMPLE))

    def test_each_result_is_new(self):
        self.assertIsNot(read_text(EXAMPLE), read_text(EXAMPLE))

    def test_read_off_a_text(self):
        text = Text((), ("q",))
        self.assertEqual(text.read(EXAMPLE), read_text(EXAMPLE))
        self.assertEqual(text, Text((), ("q",)))


class Wrong(unittest.TestCase):
    def refused(self, note, line):
        for read in (read_text, Text.read):
            with self.assertRaises(BadNote, msg=repr(note)) as caught:
                read(note)
            self.assertEqual(caught.exception.line, line, note)
            self.assertIsInstance(caught.exception, KindError)

    def line_refused(self, line):
        """This line cannot stand behind those of the head."""
        read_text(HEAD)
        self.refused(HEAD + "\n" + line, 5)
        self.refused(HEAD + "\n" + line + "\nnothing\n", 5)

    def test_what_is_no_string(self):
        for thing in OTHERS + [0, 1, ["pointer p"], Text(), ("pointer p",)]:
            self.refused(thing, 0)

    def test_empty_lines(self):
        self.refused("\n", 0)
        self.refused("\npointer p", 0)
        self.refused("pointer p\n", 1)
        self.refused("pointer p\n\npointer q", 1)
        self.refused(EXAMPLE + "\n", 4)
        self.refused(EXAMPLE.replace("\n", "\n\n"), 1)

    def test_single_lines(self):
        for note in [" ", "x", "place", "pointer", "read", "write", "copy", "blank", "tell",
                     "place ", "pointer ", "tell x", "blank 1 p+0", "note", "empty", "Pointer p",
                     "0", "p+0", "pointer p;", "pointer p; pointer q"]:
            self.refused(note, 0)

    def test_lines_out_of_their_order(self):
        self.refused("pointer p\nplace a int4", 1)
        self.refused("place a int4\nblank 1 a+0\nplace b int4", 2)
        self.refused("place a int4\nblank 1 a+0\npointer p", 2)
        self.refused("blank 1 p+0\npointer p", 0)
        self.refused("pointer p\ntell x\nread x int4 p+0", 1)

    def test_too_many_lines(self):
        self.refused("place a int4\nplace b int4\nplace c int4", 2)
        self.refused("pointer p\npointer q\npointer r\npointer s", 3)
        self.refused("place a int4\nplace b int4\npointer p\npointer q\npointer r", 4)
        self.refused("place a int4\npointer p\npointer q\npointer r\npointer s", 4)
        self.refused("pointer p" + "\nblank 1 p+0" * 13, 13)

    def test_place_lines(self):
        for line in ["place a", "place a int4 ", "place a int4 0", "place  a int4", "place a  int4",
                     "place a int", "place a int5", "place A int4", "place int4", "place a,int4",
                     " place a int4", "places a int4", "place a+0 int4", "place\na int4"]:
            self.refused(line, 0)
        self.refused("place b int4\nplace b half2", 1)

    def test_pointer_lines(self):
        for line in ["pointer p ", "pointer  p", " pointer p", "pointer P", "pointer 1", "pointer",
                     "pointer p q", "pointer p+0", "pointer abcdefghi", "pointers p"]:
            self.refused(line, 0)
        self.refused("pointer p\npointer p", 1)
        self.refused("place a int4\npointer a", 1)

    def test_read_lines(self):
        for line in ["read y int4 p", "read y int4 p+", "read y int4 +0", "read y int4 0",
                     "read y int4 p 0", "read y int4 p+0 0", "read y int4 p+00", "read y int4 p+01",
                     "read y int4 p+-0", "read y int4 p+-1", "read y int4 p++0", "read y int4 p+0+0",
                     "read y int4 p+5", "read y int4 p+8", "read y int5 p+0", "read Y int4 p+0",
                     "read x int4 p+0", "read p int4 p+0", "read a int4 p+0", "read y int4 r+0",
                     "read y int4 x+0", "read 0 int4 p+0", "read int4 p+0", "read y  int4 p+0",
                     "read y int4 p+0 ", " read y int4 p+0", "read y int4 p + 0", "read y int4 p+x",
                     "read+y int4 p+0", "read y+int4 p+0", "read y 4 p+0", "Read y int4 p+0"]:
            self.line_refused(line)

    def test_write_lines(self):
        for line in ["write int4 p+0", "write int4 p+0 ", "write int4 p+0  1", "write int4 p+0 01",
                     "write int4 p+0 -0", "write int4 p+0 00", "write int4 p+0 +1", "write int4 p+0 -",
                     "write int4 p+0 --1", "write int4 p+0 -01", "write int4 p+0 1_0",
                     "write int4 p+0 1.0", "write int4 p+0 1 ", "write int4 p+0 y", "write int4 p+0 p",
                     "write int4 p+0 X", "write int4 p+0 -x", "write int4 p+0 x+0",
                     "write int4 p+0 1 1", "write int4 p+5 1", "write int4 r+0 1", "write int p+0 1",
                     "write x int4 p+0 1", "write int4 p+0 True", "write int4 p+0 None",
                     "write int4 p+0 0x1", "write int4 p+0 1e1", "write int4 p+0 - 1",
                     f"write int4 p+0 {10 ** 40}", f"write int4 p+0 {-10 ** 40}",
                     "write int4 p+0 " + "0" * 40, "write int4 p+0 0" + "1" * 39,
                     "write int4 p+0 " + "9" * 1900]:
            self.line_refused(line)

    def test_copy_and_blank_lines(self):
        for line in ["copy 0 p+0 q+0", "copy 9 p+0 q+0", "copy 08 p+0 q+0", "copy -1 p+0 q+0",
                     "copy 4 p+5 q+0", "copy 4 p+0 q+5", "copy 4 p+0", "copy 4 p+0 q", "copy 4 p q+0",
                     "copy p+0 q+0", "copy 4 p+0 q+0 ", "copy 4 p+0 q+0 0", "copy 4 p+0 r+0",
                     "copy 4 r+0 q+0", "copy x p+0 q+0", "copy four p+0 q+0", "copy 1 p+0,q+0",
                     "blank 0 p+0", "blank 9 p+0", "blank 01 p+0", "blank 8 p+1", "blank p+0",
                     "blank 1 p", "blank 1 p+0 ", "blank 1 p+0 q+0", "blank 1 r+0", "blank +1 p+0",
                     "blank 1  p+0", "blank x p+0", "blank 1 p+0 1"]:
            self.line_refused(line)

    def test_tell_lines(self):
        for line in ["tell", "tell ", "tell x ", "tell  x", "tell x x", "tell y", "tell p", "tell 1",
                     "tell x+0", "tell X", "tell -1", "tell a"]:
            self.line_refused(line)

    def test_the_first_wrong_line_counts(self):
        self.refused("pointer p\nwrong\npointer p\nwrong", 1)
        self.refused("wrong\nwrong", 0)

    def test_a_line_that_only_a_later_line_would_allow(self):
        self.refused("pointer p\nread x int4 q+0\npointer q", 1)


class Texts(unittest.TestCase):
    def test_each_text_is_read_back(self):
        for many in range(len(STEPS) + 1):
            text = Text(PLACES, POINTERS, STEPS[:many])
            self.assertEqual(Text.read(note_of(text)), text)

    def test_the_lines_before_the_wrong_one_are_a_note(self):
        lines = note_of(Text(PLACES, POINTERS, STEPS)).split("\n")
        for many in range(len(lines) + 1):
            before = "\n".join(lines[:many])
            self.assertEqual(note_of(read_text(before)), before)
            with self.assertRaises(BadNote) as caught:
                read_text("\n".join(lines[:many] + ["wrong"] + lines[many:]))
            self.assertEqual(caught.exception.line, many)


if __name__ == "__main__":
    unittest.main()
