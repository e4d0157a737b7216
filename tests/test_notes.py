"""How a note is read and written: point [7]."""

import itertools
import unittest

from lastkind.errors import BadNote, KindError
from lastkind.notes import read_text, write_text
from lastkind.texts import Text
from oracle import made_text
from values import OTHERS, line_of, note_of

EXAMPLE = "pointer p\nread x int4 p+0\nwrite half2 p+4 -7\ntell x"
PLACES = (("a", "int4"), ("b", "half2"))
POINTERS = ("p", "q")
STEPS = (
    ("read", "x", "int4", "a", 0),
    ("write", "half2", "q", 6, "x"),
    ("copy", 3, "p", 5, "b", 0),
    ("blank", 8, "p", 0),
    ("tell", "x"),
)
HEAD = "place a int4\nplace b half2\npointer p\npointer q\nread x int4 a+0"


class Good(unittest.TestCase):
    def check(self, note, text):
        for read in (read_text, Text.read):
            got = read(note)
            self.assertIs(type(got), Text)
            self.assertEqual(got, text)
        self.assertEqual(note_of(text), note)

    def test_the_example(self):
        steps = (("read", "x", "int4", "p", 0), ("write", "half2", "p", 4, -7), ("tell", "x"))
        self.check(EXAMPLE, Text((), ("p",), steps))

    def test_the_empty_note(self):
        self.check("", Text())

    def test_each_form_of_line(self):
        note = ("place a int4\nplace b half2\npointer p\npointer q\nread x int4 a+0\n"
                "write half2 q+6 x\ncopy 3 p+5 b+0\nblank 8 p+0\ntell x")
        self.check(note, Text(PLACES, POINTERS, STEPS))

    def test_parts_alone(self):
        self.check("place a int4", Text((("a", "int4"),)))
        self.check("place a int4\nplace b half2", Text(PLACES))
        self.check("pointer p\npointer q\npointer r", Text((), ("p", "q", "r")))
        self.check("place a c1\nblank 1 a+7", Text((("a", "c1"),), (), (("blank", 1, "a", 7),)))

    def test_names_like_the_words_of_lines(self):
        steps = (("read", "tell", "read4", "write", 0), ("tell", "tell"))
        self.check("place place place1\npointer write\nread tell read4 write+0\ntell tell",
                   Text((("place", "place1"),), ("write",), steps))

    def test_values(self):
        for value in [0, 1, 9, 10, -1, -10, 100, 10 ** 39, 10 ** 40 - 1, 1 - 10 ** 40]:
            self.check(f"pointer p\nwrite int4 p+0 {value}",
                       Text((), ("p",), (("write", "int4", "p", 0, value),)))

    def test_twelve_steps(self):
        self.check("pointer p" + "\nblank 1 p+0" * 12,
                   Text((), ("p",), (("blank", 1, "p", 0),) * 12))

    def test_each_step_of_two_bytes(self):
        for many in range(1, 9):
            for first in range(9 - many):
                for second in range(9 - many):
                    step = ("copy", many, "p", first, "q", second)
                    self.check("pointer p\npointer q\n" + line_of(step), Text((), ("p", "q"), (step,)))

    def test_by_name(self):
        self.assertEqual(read_text(note=EXAMPLE), read_text(EXAMPLE))
        self.assertEqual(Text.read(note=EXAMPLE), read_text(EXAMPLE))

    def test_each_result_is_new(self):
        self.assertIsNot(read_text(EXAMPLE), read_text(EXAMPLE))

    def test_read_off_a_text(self):
        text = Text((), ("q",))
        self.assertEqual(text.read(EXAMPLE), read_text(EXAMPLE))
        self.assertEqual(text, Text((), ("q",)))


class Wrong(unittest.TestCase):
    def refused(self, note, line):
        for read in (read_text, Text.read):
            with self.assertRaises(BadNote, msg=repr(note)) as caught:
                read(note)
            self.assertEqual(caught.exception.line, line, note)
            self.assertIsInstance(caught.exception, KindError)

    def line_refused(self, line):
        """This line cannot stand behind those of the head."""
        read_text(HEAD)
        self.refused(HEAD + "\n" + line, 5)
        self.refused(HEAD + "\n" + line + "\nnothing\n", 5)

    def test_what_is_no_string(self):
        for thing in OTHERS + [0, 1, ["pointer p"], Text(), ("pointer p",)]:
            self.refused(thing, 0)

    def test_empty_lines(self):
        self.refused("\n", 0)
        self.refused("\npointer p", 0)
        self.refused("pointer p\n", 1)
        self.refused("pointer p\n\npointer q", 1)
        self.refused(EXAMPLE + "\n", 4)
        self.refused(EXAMPLE.replace("\n", "\n\n"), 1)

    def test_single_lines(self):
        for note in [" ", "x", "place", "pointer", "read", "write", "copy", "blank", "tell",
                     "place ", "pointer ", "tell x", "blank 1 p+0", "note", "empty", "Pointer p",
                     "0", "p+0", "pointer p;", "pointer p; pointer q"]:
            self.refused(note, 0)

    def test_lines_out_of_their_order(self):
        self.refused("pointer p\nplace a int4", 1)
        self.refused("place a int4\nblank 1 a+0\nplace b int4", 2)
        self.refused("place a int4\nblank 1 a+0\npointer p", 2)
        self.refused("blank 1 p+0\npointer p", 0)
        self.refused("pointer p\ntell x\nread x int4 p+0", 1)

    def test_too_many_lines(self):
        self.refused("place a int4\nplace b int4\nplace c int4", 2)
        self.refused("pointer p\npointer q\npointer r\npointer s", 3)
        self.refused("place a int4\nplace b int4\npointer p\npointer q\npointer r", 4)
        self.refused("place a int4\npointer p\npointer q\npointer r\npointer s", 4)
        self.refused("pointer p" + "\nblank 1 p+0" * 13, 13)

    def test_place_lines(self):
        for line in ["place a", "place a int4 ", "place a int4 0", "place  a int4", "place a  int4",
                     "place a int", "place a int5", "place A int4", "place int4", "place a,int4",
                     " place a int4", "places a int4", "place a+0 int4", "place\na int4"]:
            self.refused(line, 0)
        self.refused("place b int4\nplace b half2", 1)

    def test_pointer_lines(self):
        for line in ["pointer p ", "pointer  p", " pointer p", "pointer P", "pointer 1", "pointer",
                     "pointer p q", "pointer p+0", "pointer abcdefghi", "pointers p"]:
            self.refused(line, 0)
        self.refused("pointer p\npointer p", 1)
        self.refused("place a int4\npointer a", 1)

    def test_read_lines(self):
        for line in ["read y int4 p", "read y int4 p+", "read y int4 +0", "read y int4 0",
                     "read y int4 p 0", "read y int4 p+0 0", "read y int4 p+00", "read y int4 p+01",
                     "read y int4 p+-0", "read y int4 p+-1", "read y int4 p++0", "read y int4 p+0+0",
                     "read y int4 p+5", "read y int4 p+8", "read y int5 p+0", "read Y int4 p+0",
                     "read x int4 p+0", "read p int4 p+0", "read a int4 p+0", "read y int4 r+0",
                     "read y int4 x+0", "read 0 int4 p+0", "read int4 p+0", "read y  int4 p+0",
                     "read y int4 p+0 ", " read y int4 p+0", "read y int4 p + 0", "read y int4 p+x",
                     "read+y int4 p+0", "read y+int4 p+0", "read y 4 p+0", "Read y int4 p+0"]:
            self.line_refused(line)

    def test_write_lines(self):
        for line in ["write int4 p+0", "write int4 p+0 ", "write int4 p+0  1", "write int4 p+0 01",
                     "write int4 p+0 -0", "write int4 p+0 00", "write int4 p+0 +1", "write int4 p+0 -",
                     "write int4 p+0 --1", "write int4 p+0 -01", "write int4 p+0 1_0",
                     "write int4 p+0 1.0", "write int4 p+0 1 ", "write int4 p+0 y", "write int4 p+0 p",
                     "write int4 p+0 X", "write int4 p+0 -x", "write int4 p+0 x+0",
                     "write int4 p+0 1 1", "write int4 p+5 1", "write int4 r+0 1", "write int p+0 1",
                     "write x int4 p+0 1", "write int4 p+0 True", "write int4 p+0 None",
                     "write int4 p+0 0x1", "write int4 p+0 1e1", "write int4 p+0 - 1",
                     f"write int4 p+0 {10 ** 40}", f"write int4 p+0 {-10 ** 40}",
                     "write int4 p+0 " + "0" * 40, "write int4 p+0 0" + "1" * 39,
                     "write int4 p+0 " + "9" * 1900]:
            self.line_refused(line)

    def test_copy_and_blank_lines(self):
        for line in ["copy 0 p+0 q+0", "copy 9 p+0 q+0", "copy 08 p+0 q+0", "copy -1 p+0 q+0",
                     "copy 4 p+5 q+0", "copy 4 p+0 q+5", "copy 4 p+0", "copy 4 p+0 q", "copy 4 p q+0",
                     "copy p+0 q+0", "copy 4 p+0 q+0 ", "copy 4 p+0 q+0 0", "copy 4 p+0 r+0",
                     "copy 4 r+0 q+0", "copy x p+0 q+0", "copy four p+0 q+0", "copy 1 p+0,q+0",
                     "blank 0 p+0", "blank 9 p+0", "blank 01 p+0", "blank 8 p+1", "blank p+0",
                     "blank 1 p", "blank 1 p+0 ", "blank 1 p+0 q+0", "blank 1 r+0", "blank +1 p+0",
                     "blank 1  p+0", "blank x p+0", "blank 1 p+0 1"]:
            self.line_refused(line)

    def test_tell_lines(self):
        for line in ["tell", "tell ", "tell x ", "tell  x", "tell x x", "tell y", "tell p", "tell 1",
                     "tell x+0", "tell X", "tell -1", "tell a"]:
            self.line_refused(line)

    def test_the_first_wrong_line_counts(self):
        self.refused("pointer p\nwrong\npointer p\nwrong", 1)
        self.refused("wrong\nwrong", 0)

    def test_a_line_that_only_a_later_line_would_allow(self):
        self.refused("pointer p\nread x int4 q+0\npointer q", 1)


class Texts(unittest.TestCase):
    def test_each_text_is_read_back(self):
        for many in range(len(STEPS) + 1):
            text = Text(PLACES, POINTERS, STEPS[:many])
            self.assertEqual(Text.read(note_of(text)), text)

    def test_the_lines_before_the_wrong_one_are_a_note(self):
        lines = note_of(Text(PLACES, POINTERS, STEPS)).split("\n")
        for many in range(len(lines) + 1):
            before = "\n".join(lines[:many])
            self.assertEqual(note_of(read_text(before)), before)
            with self.assertRaises(BadNote) as caught:
                read_text("\n".join(lines[:many] + ["wrong"] + lines[many:]))
            self.assertEqual(caught.exception.line, many)


class Written(unittest.TestCase):
    def check(self, text, note):
        self.assertEqual(write_text(text), note)
        self.assertIs(type(write_text(text)), str)
        for read in (read_text, Text.read):
            self.assertEqual(read(note), text)

    def check_step(self, step, line):
        """The line of one step, behind the head."""
        before = Text.read(HEAD)
        self.check(before.with_step(step), HEAD + "\n" + line)

    def test_the_example(self):
        steps = (("read", "x", "int4", "p", 0), ("write", "half2", "p", 4, -7), ("tell", "x"))
        self.check(Text((), ("p",), steps), EXAMPLE)

    def test_the_empty_text(self):
        self.check(Text(), "")

    def test_places_and_pointers(self):
        self.check(Text((("a", "int4"),)), "place a int4")
        self.check(Text((("b", "c1"), ("a", "int4"))), "place b c1\nplace a int4")
        self.check(Text((), ("q", "p", "abcdefg8")), "pointer q\npointer p\npointer abcdefg8")
        self.check(Text((("a", "abcdef3"),), ("p",)), "place a abcdef3\npointer p")

    def test_each_word_of_a_step(self):
        self.check_step(("read", "y", "half2", "q", 6), "read y half2 q+6")
        self.check_step(("write", "half2", "a", 0, "x"), "write half2 a+0 x")
        self.check_step(("write", "c1", "p", 7, 12), "write c1 p+7 12")
        self.check_step(("copy", 8, "p", 0, "q", 0), "copy 8 p+0 q+0")
        self.check_step(("copy", 1, "a", 3, "b", 7), "copy 1 a+3 b+7")
        self.check_step(("blank", 2, "b", 5), "blank 2 b+5")
        self.check_step(("tell", "x"), "tell x")

    def test_all_together(self):
        note = ("place a int4\nplace b half2\npointer p\npointer q\nread x int4 a+0\n"
                "write half2 q+6 x\ncopy 3 p+5 b+0\nblank 8 p+0\ntell x")
        self.check(Text(PLACES, POINTERS, STEPS), note)

    def test_values(self):
        most = "1234567890" * 4
        for told in ["0", "1", "-1", "10", "-10", "9" * 40, "-" + "9" * 40, most, "-" + most,
                     "1" + "0" * 39]:
            self.check_step(("write", "int4", "p", 4, int(told)), f"write int4 p+4 {told}")

    def test_twelve_steps(self):
        self.check(Text((), ("p",), (("blank", 1, "p", 0),) * 12), "pointer p" + "\nblank 1 p+0" * 12)

    def test_by_name(self):
        self.assertEqual(write_text(text=Text((), ("p",))), "pointer p")

    def test_the_text_does_not_change(self):
        text = Text(PLACES, POINTERS, STEPS)
        write_text(text)
        self.assertEqual(text, Text(PLACES, POINTERS, STEPS))

    def test_two_texts_have_one_note_only_if_they_are_equal(self):
        texts = [made_text(seed, places=2, pointers=2, steps=3) for seed in range(300)]
        texts += [Text(places, pointers) for places in [(), PLACES, PLACES[::-1], PLACES[:1]]
                  for pointers in [(), ("p",), ("q", "p"), ("p", "q")]]
        steps = [("write", "int4", "p", 0, value) for value in [0, 1, -1, 10, 100, "x"]]
        steps += [("blank", many, name, at) for many in (1, 2) for name in "pq" for at in (0, 1)]
        steps += [("copy", 1, one, here, other, there) for one, other in ["pq", "qp", "pp"]
                  for here in (0, 1) for there in (0, 1)]
        texts += [Text.read("pointer p\npointer q\nread x c1 p+0").with_step(step) for step in steps]
        for one, other in itertools.combinations(texts, 2):
            self.assertEqual(write_text(one) == write_text(other), one == other)

    def test_made_texts_are_read_back(self):
        for seed in range(300):
            text = made_text(seed, places=2, pointers=2, steps=8)
            self.check(text, note_of(text))


class Changed(unittest.TestCase):
    """Notes that were changed in one line: each is the note of the text that it gives, or none."""

    NOTE = ("place a int4\nplace b half2\npointer p\npointer q\nread x int4 a+0\nwrite half2 q+6 x\n"
            "write c1 p+7 -120\ncopy 3 p+5 b+0\nblank 8 p+0\ntell x")

    def is_note(self, note):
        try:
            return note_of(read_text(note)) == note
        except BadNote:
            return False

    def check(self, lines):
        note = "\n".join(lines)
        try:
            self.assertEqual(write_text(read_text(note)), note)
        except BadNote as error:
            self.assertTrue(0 <= error.line < len(lines), note)
            self.assertTrue(self.is_note("\n".join(lines[:error.line])), note)
            self.assertFalse(error.line and self.is_note("\n".join(lines[:error.line + 1])), note)

    def refused(self, lines, at):
        with self.assertRaises(BadNote, msg=lines) as caught:
            read_text("\n".join(lines))
        self.assertEqual(caught.exception.line, at, lines)

    def each_line(self):
        lines = self.NOTE.split("\n")
        for at in range(len(lines)):
            yield lines[:at], lines[at], lines[at + 1:], at

    def test_a_word_left_out(self):
        for before, line, after, at in self.each_line():
            words = line.split(" ")
            for k in range(len(words)):
                self.refused([*before, " ".join(words[:k] + words[k + 1:]), *after], at)

    def test_a_word_put_in(self):
        for before, line, after, at in self.each_line():
            words = line.split(" ")
            for k in range(len(words) + 1):
                for word in ["a", "y", "int4", "0", "1", "p+0", "read", ""]:
                    self.refused([*before, " ".join([*words[:k], word, *words[k:]]), *after], at)

    def test_a_word_exchanged(self):
        for before, line, after, _ in self.each_line():
            words = line.split(" ")
            for k in range(len(words)):
                for word in ["a", "x", "y", "int4", "c1", "0", "1", "-1", "01", "p+0", "p+9", "y+0", "tell"]:
                    self.check([*before, " ".join([*words[:k], word, *words[k + 1:]]), *after])

    def test_spaces_and_other_signs(self):
        for before, line, after, at in self.each_line():
            self.refused([*before, " " + line, *after], at)
            self.refused([*before, line + " ", *after], at)
            self.refused([*before, "", line, *after], at)
            for k in range(len(line)):
                self.refused([*before, line[:k] + "  " + line[k + 1:], *after], at)
                for sign in " -+0;":
                    self.check([*before, line[:k] + sign + line[k:], *after])

    def test_a_line_twice_left_out_or_exchanged_with_the_next(self):
        lines = self.NOTE.split("\n")
        for at in range(len(lines)):
            self.check([*lines[:at], lines[at], *lines[at:]])
            self.check([*lines[:at], *lines[at + 1:]])
            self.check([*lines[:at], *lines[at:at + 2][::-1], *lines[at + 2:]])
        for at in range(5):
            self.refused([*lines[:at + 1], *lines[at:]], at + 1)

    def test_an_empty_line_at_the_end(self):
        lines = self.NOTE.split("\n")
        self.refused([*lines, ""], len(lines))
        self.refused([*lines, "", ""], len(lines))

    def test_numbers(self):
        lines = self.NOTE.split("\n")[:6]
        for told in ["00", "01", "-0", "-01", "+1", "+0", "1" * 41, "-" + "1" * 41, "--1", "1-", "-"]:
            self.refused([*lines, f"write c1 p+0 {told}"], 6)
            self.refused([*lines, f"blank {told} p+0"], 6)
            self.refused([*lines, f"blank 1 p+{told}"], 6)
            self.refused([*lines, f"copy 1 p+0 q+{told}"], 6)


if __name__ == "__main__":
    unittest.main()
