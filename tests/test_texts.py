"""When a Text is made, and which error is raised when it is not: point [6]."""

import copy
import unittest

from lastkind.errors import BadText, KindError
from lastkind.texts import Text
from values import OTHERS

PLACES = (("a", "int4"), ("b", "half2"))
POINTERS = ("p", "q")
STEPS = (
    ("read", "x", "int4", "a", 0),
    ("write", "half2", "q", 6, "x"),
    ("copy", 3, "p", 5, "b", 0),
    ("blank", 8, "p", 0),
    ("read", "y", "c1", "p", 7),
    ("tell", "y"),
    ("write", "int4", "p", 4, -10 ** 39),
)


class Checks(unittest.TestCase):
    def refused(self, part, index, *args, **named):
        with self.assertRaises(BadText) as caught:
            Text(*args, **named)
        self.assertIsInstance(caught.exception, KindError)
        self.assertEqual((caught.exception.part, caught.exception.index), (part, index), (args, named))
        self.assertNotIsInstance(caught.exception.index, bool)

    def step_taken(self, *steps):
        self.assertEqual(Text(PLACES, POINTERS, steps).steps, steps)

    def step_refused(self, *steps):
        """The last one of these steps is the first wrong one."""
        self.refused("steps", len(steps) - 1, PLACES, POINTERS, steps)
        self.refused("steps", len(steps) - 1, PLACES, POINTERS, (*steps, ("tell", "nobody"), None))


class Made(unittest.TestCase):
    def test_the_empty_text(self):
        text = Text()
        self.assertEqual((text.places, text.pointers, text.steps), ((), (), ()))

    def test_the_attributes_are_what_was_given(self):
        text = Text(PLACES, POINTERS, STEPS)
        self.assertEqual(text.places, PLACES)
        self.assertEqual(text.pointers, POINTERS)
        self.assertEqual(text.steps, STEPS)
        for part in (text.places, text.pointers, text.steps):
            self.assertIs(type(part), tuple)

    def test_by_name(self):
        text = Text(steps=STEPS, pointers=POINTERS, places=PLACES)
        self.assertEqual((text.places, text.pointers, text.steps), (PLACES, POINTERS, STEPS))
        self.assertEqual(Text(pointers=("p",)).pointers, ("p",))
        self.assertEqual(Text((), pointers=("p",)).places, ())

    def test_a_change_of_what_was_handed_in_changes_no_text(self):
        places, pointers, steps = list(PLACES), list(POINTERS), [list(step) for step in STEPS]
        text = Text(tuple(places), tuple(pointers), tuple([tuple(step) for step in steps]))
        places[0] = None
        pointers.clear()
        steps[0][0] = "tell"
        self.assertEqual((text.places, text.pointers, text.steps), (PLACES, POINTERS, STEPS))

    def test_the_arguments_do_not_change(self):
        cases = [
            [PLACES, POINTERS, STEPS],
            [list(PLACES), list(POINTERS), list(STEPS)],
            [(["a", "int4"],), ["p"], [["tell", "x"]]],
            [(), (["p"],), (["tell", "x"],)],
            [(), ("p",), (["tell", ["x"]],)],
        ]
        for args in cases:
            before = copy.deepcopy(args)
            try:
                Text(*args)
            except BadText:
                pass
            self.assertEqual(args, before)

    def test_texts_do_not_share_state(self):
        first = Text((), ("p",))
        first.with_step(("blank", 1, "p", 0))
        self.assertEqual(Text((), ("p",)).steps, ())
        self.assertEqual(Text().pointers, ())


class Places(Checks):
    def test_no_tuple(self):
        for thing in [None, True, 0, "", "a", [], list(PLACES), {}]:
            self.refused("places", None, thing)
            self.refused("places", None, thing, None, None)

    def test_how_many(self):
        for many in range(3):
            self.assertEqual(Text(PLACES[:many]).places, PLACES[:many])
        self.refused("places", None, (*PLACES, ("c", "int4")))
        self.refused("places", None, (None, None, None))

    def test_wrong_entries(self):
        wrong = OTHERS + [
            0, 1, "a", "ab", ("a",), ("a", "int4", 0), ("a", "int"), ("a", "int5"), ("A", "int4"),
            ("", "int4"), ("abcdefghi", "int4"), ("a\n", "int4"), ("int4", "a"), ["a", "int4"],
            (True, "int4"), ("a", True), ("a", 4), (("a",), "int4"), ("a", ["int4"]), ("a", None),
        ]
        for place in wrong:
            self.refused("places", 0, (place,))
            self.refused("places", 0, (place, PLACES[0]))
            self.refused("places", 1, (PLACES[1], place))
            self.refused("places", 0, (place, place))

    def test_a_name_twice(self):
        self.refused("places", 1, (("a", "int4"), ("a", "int4")))
        self.refused("places", 1, (("a", "int4"), ("a", "half2")))
        self.assertEqual(len(Text((("a", "int4"), ("b", "int4"))).places), 2)

    def test_each_size(self):
        for kind in ["c1", "half2", "rgb3", "int4"]:
            self.assertEqual(Text((("a", kind),)).places, (("a", kind),))


class Pointers(Checks):
    def test_no_tuple(self):
        for thing in [None, False, 0, "", "p", ["p"], [], {}]:
            self.refused("pointers", None, (), thing)
            self.refused("pointers", None, PLACES, thing, None)

    def test_how_many(self):
        names = ("p", "q", "r", "s", "t")
        for many_places in range(3):
            for many in range(6):
                places, pointers = PLACES[:many_places], names[:many]
                if many <= 3 and many + many_places <= 4:
                    self.assertEqual(Text(places, pointers).pointers, pointers)
                else:
                    self.refused("pointers", None, places, pointers)

    def test_too_many_come_before_wrong_ones(self):
        self.refused("pointers", None, (), (None, "p", "p", 0))
        self.refused("pointers", None, PLACES, ("a", "a", "b"))

    def test_wrong_entries(self):
        for pointer in OTHERS + [0, 1, "", "P", "1p", "p_", "p\n", "abcdefghi", ("p", "int4")]:
            self.refused("pointers", 0, (), (pointer,))
            self.refused("pointers", 0, (), (pointer, pointer, "p"))
            self.refused("pointers", 1, PLACES, ("p", pointer))
            self.refused("pointers", 2, (), ("p", "q", pointer))

    def test_a_name_twice(self):
        self.refused("pointers", 1, (), ("p", "p"))
        self.refused("pointers", 2, (), ("p", "q", "p"))
        self.refused("pointers", 2, (), ("p", "q", "q"))

    def test_a_name_that_is_a_place(self):
        self.refused("pointers", 0, PLACES, ("a",))
        self.refused("pointers", 0, PLACES, ("b", "p"))
        self.refused("pointers", 1, PLACES, ("p", "b"))

    def test_places_come_first(self):
        self.refused("places", 0, (None,), None, None)
        self.refused("places", 1, (PLACES[0], PLACES[0]), ("a", "a"), (None,))


class Steps(Checks):
    def test_no_tuple(self):
        for thing in [None, True, 0, "", "tell x", [], list(STEPS), {}]:
            self.refused("steps", None, PLACES, POINTERS, thing)

    def test_pointers_come_first(self):
        self.refused("pointers", None, PLACES, None, None)
        self.refused("pointers", 0, PLACES, ("a",), (None,))

    def test_how_many(self):
        step = ("blank", 1, "p", 0)
        for many in range(13):
            self.assertEqual(len(Text((), ("p",), (step,) * many)), many)
        self.refused("steps", None, (), ("p",), (step,) * 13)
        self.refused("steps", None, (), ("p",), (None,) * 13)
        self.refused("steps", 11, (), ("p",), (step,) * 11 + (None,))

    def test_entries_that_are_no_steps(self):
        wrong = OTHERS + [
            0, "tell x", ("tell",), ["tell", "x"], ("tell", "x", "y"), ("blank", 0, "p", 0),
            ("blank", 9, "p", 0), ("blank", True, "p", 0), ("blank", 1, "p", False),
            ("write", "int4", "p", 0, 10 ** 40), ("write", "int4", "p", 0, -10 ** 40),
            ("write", "int4", "p", 0, True), ("blank", 1, "p", -1), ("blank", 1, "p", 8),
        ]
        for step in wrong:
            self.step_refused(step)
            self.step_refused(*STEPS, step)

    def test_names_that_are_not_of_the_text(self):
        for name in ["r", "x", "y", "ab", "int4"]:
            self.step_refused(*STEPS, ("read", "z", "int4", name, 0))
            self.step_refused(*STEPS, ("write", "int4", name, 0, 1))
            self.step_refused(*STEPS, ("copy", 1, name, 0, "p", 0))
            self.step_refused(*STEPS, ("copy", 1, "p", 0, name, 0))
            self.step_refused(*STEPS, ("blank", 1, name, 0))

    def test_pointers_and_places_alike(self):
        for name in ["a", "b", "p", "q"]:
            self.step_taken(("read", "z", "int4", name, 0))
            self.step_taken(("write", "int4", name, 0, 1))
            self.step_taken(("copy", 1, name, 0, name, 0))
            self.step_taken(("blank", 1, name, 0))
        self.refused("steps", 0, (), (), (("blank", 1, "p", 0),))

    def test_offsets_of_the_bytes_of_reads_and_writes(self):
        for kind, size in [("c1", 1), ("half2", 2), ("rgb3", 3), ("int4", 4)]:
            for offset in range(8):
                for name in ["p", "a"]:
                    taken = offset + size - 1 <= 7
                    check = self.step_taken if taken else self.step_refused
                    check(("read", "x", kind, name, offset))
                    check(("write", kind, name, offset, 0))
                    self.step_refused(("write", kind, name, offset, "x"))

    def test_offsets_of_the_bytes_of_copies_and_blanks(self):
        for many in range(1, 9):
            for offset in range(8):
                taken = offset + many - 1 <= 7
                check = self.step_taken if taken else self.step_refused
                check(("blank", many, "p", offset))
                check(("copy", many, "p", offset, "q", 0))
                check(("copy", many, "p", 0, "q", offset))
                check(("copy", many, "p", offset, "p", offset))

    def test_read_names_that_are_taken(self):
        read = ("read", "x", "int4", "p", 0)
        for name in ["a", "b", "p", "q"]:
            self.step_refused(("read", name, "int4", "p", 0))
            self.step_refused(read, ("read", name, "int4", "p", 0))
        self.step_refused(read, read)
        self.step_refused(read, ("blank", 1, "p", 0), ("read", "x", "half2", "q", 0))
        self.step_taken(read, ("read", "y", "int4", "p", 0))

    def test_values_that_were_not_read(self):
        read = ("read", "x", "int4", "p", 0)
        for use in [("tell", "x"), ("write", "half2", "q", 0, "x")]:
            self.step_refused(use)
            self.refused("steps", 0, PLACES, POINTERS, (use, read))
            self.step_refused(("read", "y", "int4", "p", 0), use)
            self.step_taken(read, use)
            self.step_taken(read, use, use)
            self.step_taken(read, ("blank", 8, "p", 0), use)

    def test_values_that_are_pointers_or_places(self):
        for name in ["a", "b", "p", "q"]:
            self.step_refused(("tell", name))
            self.step_refused(("write", "int4", "p", 0, name))

    def test_the_first_wrong_entry_counts(self):
        unknown, no_step = ("blank", 1, "r", 0), ("blank", 1)
        self.refused("steps", 0, (), ("p",), (unknown, no_step))
        self.refused("steps", 0, (), ("p",), (no_step, unknown))
        self.refused("steps", 1, (), ("p",), (("blank", 1, "p", 0), unknown, no_step))


if __name__ == "__main__":
    unittest.main()
