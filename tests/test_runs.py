"""Runs: points [11], [12] and [13]."""

import copy
import unittest

from lastkind.errors import KindError, NoLaying, NoStep
from lastkind.runs import Run
from lastkind.texts import Text
from values import OTHERS, text_of

ONE = (None,)
APART = (None, None)
SAME = (None, ("p", 0))


class Checks(unittest.TestCase):
    def run_of(self, text, laying):
        run = Run(text, laying)
        self.assertIs(run.lawful, run.at is None)
        self.assertIs(run.lawful, run.reason is None)
        return run

    def lawful(self, laying, head, *lines):
        run = self.run_of(text_of(head, *lines), laying)
        self.assertEqual((run.lawful, run.at, run.reason), (True, None, None), lines)
        return run

    def unlawful(self, reason, laying, head, *lines):
        """The last line is the first unlawful step; what follows it changes nothing."""
        name = head.split()[-1].partition("=")[0]
        for behind in [], [f"blank 1 {name}+0", f"write int4 {name}+0 1"]:
            run = self.run_of(text_of(head, *lines, *behind), laying)
            self.assertEqual((run.lawful, run.at, run.reason), (False, len(lines) - 1, reason), lines)
            self.assertIs(type(run.at), int)
        return run


class Places(Checks):
    """The reason "place"."""

    def test_the_kind_of_the_place_at_its_first_byte(self):
        self.lawful(APART, "a=int4 p", "read x int4 a+0", "write int4 a+0 7", "read y int4 a+0")
        self.lawful((None, ("a", -2)), "a=int4 p", "read x int4 p+2", "write int4 p+2 7", "read y int4 a+0")

    def test_another_kind(self):
        for line in ["read x word4 a+0", "write word4 a+0 7", "read x half2 a+0", "write c1 a+0 7",
                     "read x c1 a+3", "write half2 a+2 7", "write rgb3 a+3 7", "read x long4 a+2"]:
            self.unlawful("place", APART, "a=int4 p", line)

    def test_another_first_byte(self):
        for line in ["read x int4 a+1", "write int4 a+1 7", "read x int4 a+3", "write int4 a+3 7"]:
            self.unlawful("place", APART, "a=int4 p", line)
        for d, line in [(-1, "read x int4 p+0"), (1, "write int4 p+0 1"), (3, "write int4 p+0 1"),
                        (-3, "read x int4 p+0")]:
            self.unlawful("place", (None, ("a", d)), "a=int4 p", line)

    def test_next_to_a_place(self):
        self.lawful(APART, "a=int4 p", "read x int4 a+4", "write half2 a+6 7", "blank 4 a+4")
        self.lawful((None, ("a", -4)), "a=int4 p", "write int4 p+0 1", "read x int4 a+0", "blank 4 p+0",
                    "read y int4 p+4")

    def test_each_size(self):
        for kind in ["c1", "half2", "rgb3", "int4"]:
            size = int(kind[-1])
            for many in range(1, 5):
                for first in range(5):
                    line = f"write other{many} a+{first} 1"
                    if first < size:
                        self.unlawful("place", APART, f"a={kind} p", line)
                    else:
                        self.lawful(APART, f"a={kind} p", line)

    def test_the_target_of_a_copy(self):
        write = "write int4 p+0 5"
        self.lawful(APART, "a=int4 p", write, "copy 4 a+0 p+0", "read x int4 a+0")
        self.lawful(APART, "a=int4 p", write, "copy 4 a+4 p+0", "read x int4 a+4")
        for line in ["copy 3 a+0 p+0", "copy 5 a+0 p+0", "copy 1 a+0 p+0", "copy 1 a+3 p+0", "copy 4 a+1 p+0",
                     "copy 4 a+3 p+0", "copy 8 a+0 p+0", "copy 3 a+1 p+0"]:
            self.unlawful("place", APART, "a=int4 p", write, line)
        self.unlawful("place", (None, ("a", -1)), "a=int4 p", "copy 6 p+0 p+0")
        self.unlawful("place", (None, ("a", -1)), "a=int4 p", "copy 5 p+0 p+0")

    def test_a_copy_may_take_up_any_bytes_of_a_place(self):
        for many in range(1, 9):
            for first in range(9 - many):
                self.lawful(APART, "a=int4 p", f"copy {many} p+0 a+{first}")
        self.lawful((None, ("a", -4)), "a=int4 p", "copy 2 p+0 p+5", "copy 4 p+0 p+2")

    def test_a_blank(self):
        for line in ["blank 1 a+0", "blank 1 a+3", "blank 4 a+0", "blank 8 a+0", "blank 2 a+3"]:
            self.unlawful("place", APART, "a=int4 p", line)
        self.lawful(APART, "a=int4 p", "blank 1 a+4", "blank 4 a+4")
        self.unlawful("place", (None, ("a", -1)), "a=int4 p", "blank 1 p+0", "blank 2 p+0")

    def test_the_second_place(self):
        self.unlawful("place", (None, None, ("b", 0)), "a=int4 b=half2 p", "write half2 p+0 1", "read x int4 p+0")
        self.unlawful("place", (None, None, ("a", 0)), "a=int4 b=half2 p", "read x int4 p+0", "write half2 p+0 1")
        self.lawful((None, None, ("b", 0)), "a=int4 b=half2 p", "write half2 p+0 1", "read x half2 b+0")
        self.unlawful("place", (None, None, None), "a=int4 b=int4 p", "copy 4 b+0 a+0", "copy 3 b+0 a+0")


class Blanks(Checks):
    """The reason "blank"."""

    def test_each_byte(self):
        for k in range(4):
            self.unlawful("blank", ONE, "p", f"blank 1 p+{k}", "read x int4 p+0")
            self.unlawful("blank", ONE, "p", "write int4 p+0 1", f"blank 1 p+{k}", "read x int4 p+0")
        self.lawful(ONE, "p", "blank 1 p+0", "blank 2 p+5", "read x int4 p+1")
        self.unlawful("blank", ONE, "p", "blank 8 p+0", "read x int4 p+4")

    def test_bytes_that_were_written_again(self):
        self.lawful(ONE, "p", "blank 4 p+0", "write int4 p+0 1", "read x int4 p+0")
        self.unlawful("blank", ONE, "p", "blank 4 p+0", "write rgb3 p+0 1", "read x int4 p+0")

    def test_a_copy_of_blank_bytes(self):
        self.unlawful("blank", APART, "p q", "blank 1 q+1", "copy 2 p+0 q+0", "read x half2 p+0")
        self.lawful(APART, "p q", "blank 1 q+1", "copy 2 p+0 q+0", "read x c1 p+0", "blank 2 p+0")

    def test_a_copy_onto_a_place(self):
        self.unlawful("blank", APART, "a=half2 p", "blank 1 p+0", "copy 2 a+0 p+0")
        self.unlawful("blank", APART, "a=half2 p", "write half2 p+0 1", "blank 1 p+1", "copy 2 a+0 p+0")
        self.lawful(APART, "a=half2 p", "blank 1 p+0", "copy 2 a+2 p+0")


class Torn(Checks):
    """The reason "torn"."""

    def test_the_example(self):
        self.unlawful("torn", ONE, "p", "write int4 p+0 1", "read x half2 p+0")

    def test_parts_of_things(self):
        for line in ["read x half2 p+2", "read x half2 p+1", "read x c1 p+0", "read x c1 p+3", "read x rgb3 p+0",
                     "read x rgb3 p+1"]:
            self.unlawful("torn", ONE, "p", "write int4 p+0 1", line)

    def test_two_things(self):
        self.unlawful("torn", ONE, "p", "write half2 p+0 1", "write half2 p+2 1", "read x int4 p+0")
        self.unlawful("torn", ONE, "p", "write half2 p+0 1", "write half2 p+2 1", "read x half2 p+1")
        self.unlawful("torn", ONE, "p", "write half2 p+0 1", "write half2 p+1 1", "read x half2 p+0")
        self.unlawful("torn", APART, "p q", "write half2 p+0 1", "write half2 q+0 1", "copy 1 p+0 q+0",
                      "read x half2 p+0")
        self.unlawful("torn", APART, "p q", "write half2 p+0 1", "write half2 q+0 1", "copy 1 p+1 q+1",
                      "read x half2 p+0")

    def test_places_in_another_order(self):
        self.unlawful("torn", ONE, "p", "write half2 p+0 1", "copy 1 p+2 p+0", "read x half2 p+1")
        self.unlawful("torn", ONE, "p", "write half2 p+0 1", "copy 1 p+1 p+0", "read x half2 p+0")
        self.lawful(ONE, "p", "write half2 p+0 1", "copy 1 p+2 p+0", "copy 1 p+3 p+1", "read x half2 p+2")

    def test_written_and_unknown_bytes(self):
        for k in range(4):
            self.unlawful("torn", ONE, "p", f"write c1 p+{k} 1", "read x int4 p+0")
        for k in (0, 2):
            self.unlawful("torn", ONE, "p", f"write half2 p+{k} 1", "read x int4 p+0")
        self.unlawful("torn", ONE, "p", "write int4 p+1 1", "read x int4 p+0")
        self.unlawful("torn", ONE, "p", "write int4 p+0 1", "read x int4 p+1")
        self.unlawful("torn", ONE, "p", "read x half2 p+0", "write half2 p+2 1", "read y half2 p+1")

    def test_a_copy_onto_a_place(self):
        self.unlawful("torn", APART, "a=half2 p", "write int4 p+0 1", "copy 2 a+0 p+0")
        self.unlawful("torn", APART, "a=half2 p", "write c1 p+0 1", "copy 2 a+0 p+0")
        self.lawful(APART, "a=half2 p", "write int4 p+0 1", "copy 2 a+2 p+0")


class Kinds(Checks):
    """The reason "kind"."""

    def test_a_thing_of_another_kind(self):
        for one, other in [("int4", "word4"), ("a1", "b1"), ("half2", "halves2"), ("int4", "in4")]:
            self.unlawful("kind", ONE, "p", f"write {one} p+0 1", f"read x {other} p+0")
            self.lawful(ONE, "p", f"write {one} p+0 1", f"read x {one} p+0")

    def test_through_copies_and_other_names(self):
        self.unlawful("kind", APART, "p q", "write int4 p+0 1", "copy 4 q+0 p+0", "read x word4 q+0")
        self.unlawful("kind", SAME, "p q", "write int4 p+0 1", "read x word4 q+0")
        self.unlawful("kind", (None, ("p", -3)), "p q", "write int4 p+0 1", "read x word4 q+3")

    def test_a_copy_onto_a_place(self):
        self.unlawful("kind", APART, "a=half2 p", "write pair2 p+0 1", "copy 2 a+0 p+0")
        self.lawful(APART, "a=half2 p", "write pair2 p+0 1", "copy 2 a+2 p+0")


class Clashes(Checks):
    """The reason "clash"."""

    def test_two_kinds(self):
        self.unlawful("clash", ONE, "p", "read x int4 p+0", "read y word4 p+0")
        self.unlawful("clash", ONE, "p", "read x int4 p+0", "read y half2 p+0")
        self.unlawful("clash", ONE, "p", "read x int4 p+0", "read y c1 p+0")
        self.unlawful("clash", ONE, "p", "read x half2 p+0", "read y int4 p+0")
        self.unlawful("clash", SAME, "p q", "read x int4 p+0", "read y word4 q+0")
        self.lawful(APART, "p q", "read x int4 p+0", "read y word4 q+0")

    def test_kinds_whose_places_agree(self):
        self.unlawful("clash", ONE, "p", "read x c1 p+0", "read y d1 p+0")
        self.unlawful("clash", ONE, "p", "read x c1 p+0", "read y half2 p+0")

    def test_two_places_of_several_asks(self):
        self.unlawful("clash", ONE, "p", "read x int4 p+0", "read y int4 p+1")
        self.unlawful("clash", ONE, "p", "read x int4 p+1", "read y int4 p+0")
        self.unlawful("clash", ONE, "p", "read x int4 p+0", "read y int4 p+3")
        self.unlawful("clash", ONE, "p", "read x half2 p+0", "read y half2 p+2", "read z half2 p+1")
        self.lawful(ONE, "p", "read x int4 p+0", "read y int4 p+4")

    def test_two_places_within_one_ask(self):
        self.unlawful("clash", ONE, "p", "copy 1 p+1 p+0", "read x half2 p+0")
        self.unlawful("clash", ONE, "p", "copy 1 p+0 p+3", "read x int4 p+0")
        self.lawful(ONE, "p", "copy 1 p+1 p+0", "read x c1 p+0", "read y c1 p+1")

    def test_one_byte_in_several_places_of_memory(self):
        self.lawful(ONE, "p", "copy 2 p+2 p+0", "copy 2 p+4 p+0", "read x half2 p+4", "read y half2 p+2")
        self.unlawful("clash", ONE, "p", "copy 1 p+3 p+0", "read x half2 p+0", "read y half2 p+2")

    def test_one_place_of_a_thing_in_several_bytes(self):
        run = self.lawful(APART, "p q", "read x half2 p+0", "copy 1 p+0 q+0", "read y half2 p+0")
        self.assertEqual((run.found(0), run.found(2)), (("first", 0), ("first", 0)))
        self.assertEqual(run.end()[("q", 0)], ("half2", 0, ("first", 0)))

    def test_asks_that_others_join(self):
        lines = ["read x half2 p+0", "read y pair2 q+0", "copy 1 p+1 q+1"]
        self.unlawful("clash", APART, "p q", *lines, "read z half2 p+0")
        self.unlawful("clash", APART, "p q", *lines, "read z pair2 p+0")
        self.lawful(APART, "p q", "read x half2 p+0", *lines[2:], "read z half2 p+0", "read u half2 q+0")

    def test_a_kind_that_came_in_by_a_chain_of_asks(self):
        lines = ["read x half2 p+0", "copy 1 p+3 q+1", "copy 1 p+2 p+0", "read y half2 p+2", "copy 1 r+0 r+4"]
        self.lawful((None, None, None), "p q r", *lines, "read z half2 q+0")
        self.unlawful("clash", (None, None, None), "p q r", *lines, "read z pair2 q+0")
        self.unlawful("clash", (None, None, None), "p q r", *lines, "read z half2 q+1")
        self.lawful((None, None, None), "p q r", *lines, "read z pair2 q+2")

    def test_a_copy_onto_a_place_asks(self):
        self.unlawful("clash", APART, "a=half2 p", "copy 2 a+0 p+0", "read x pair2 p+0")
        self.unlawful("clash", APART, "a=half2 p", "read x pair2 p+0", "copy 2 a+0 p+0")
        self.unlawful("clash", APART, "a=half2 p", "copy 2 a+0 p+0", "copy 2 a+0 p+1")
        self.unlawful("clash", (None, None), "a=half2 b=pair2", "copy 2 a+0 a+0", "copy 2 b+0 a+0")

    def test_a_copy_elsewhere_asks_nothing(self):
        run = self.lawful(APART, "p q", "copy 2 p+0 q+0", "copy 2 p+1 q+0", "copy 2 p+0 p+1")
        self.assertEqual(run.end(), {
            ("p", 0): ("first", ("q", 0)), ("p", 1): ("first", ("q", 1)), ("p", 2): ("first", ("q", 1)),
            ("q", 0): ("first", ("q", 0)), ("q", 1): ("first", ("q", 1))})


class WhichComesFirst(Checks):
    def test_place_before_blank(self):
        self.unlawful("place", (None, ("a", -2)), "a=half2 p", "blank 2 p+0", "read x int4 p+0")
        self.unlawful("place", APART, "a=half2 p", "blank 2 p+0", "copy 3 a+0 p+0")

    def test_place_before_torn(self):
        self.unlawful("place", APART, "a=int4 p", "write int4 a+0 1", "read x half2 a+0")
        self.unlawful("place", (None, ("a", -1)), "a=half2 p", "write c1 p+0 1", "read x half2 p+0")
        self.unlawful("place", APART, "a=half2 p", "write c1 p+0 1", "copy 3 a+0 p+0")

    def test_place_before_kind(self):
        self.unlawful("place", APART, "a=int4 p", "write int4 a+0 1", "read x word4 a+0")

    def test_place_before_clash(self):
        self.unlawful("place", APART, "a=int4 p", "read x int4 a+0", "read y word4 a+0")
        self.unlawful("place", APART, "a=int4 p", "read x int4 a+0", "read y int4 a+1")

    def test_blank_before_torn(self):
        self.unlawful("blank", ONE, "p", "write c1 p+0 1", "blank 1 p+1", "read x half2 p+0")
        self.unlawful("blank", ONE, "p", "write int4 p+0 1", "blank 1 p+0", "read x int4 p+0")
        self.unlawful("blank", ONE, "p", "write c1 p+0 1", "blank 1 p+2", "read x rgb3 p+0")
        self.unlawful("blank", APART, "a=half2 p", "write c1 p+0 1", "blank 1 p+1", "copy 2 a+0 p+0")

    def test_blank_before_clash(self):
        self.unlawful("blank", ONE, "p", "read x half2 p+0", "blank 1 p+1", "read y pair2 p+0")
        self.unlawful("blank", ONE, "p", "read x half2 p+0", "blank 1 p+2", "read y half2 p+1")

    def test_blank_where_the_rest_is_unknown(self):
        self.unlawful("blank", ONE, "p", "blank 1 p+3", "read x int4 p+0")

    def test_torn_before_kind(self):
        self.unlawful("torn", ONE, "p", "write int4 p+0 1", "read x half2 p+0")
        self.unlawful("torn", ONE, "p", "write int4 p+0 1", "write c1 p+3 1", "read x word4 p+0")

    def test_torn_before_clash(self):
        self.unlawful("torn", ONE, "p", "read x half2 p+0", "write c1 p+1 1", "read y pair2 p+0")
        self.unlawful("torn", ONE, "p", "read x half2 p+0", "write c1 p+2 1", "read y half2 p+1")


class Copies(Checks):
    def end_of(self, *lines):
        return self.lawful(ONE, "p", *lines).end()

    def test_overlapping_upwards_and_downwards(self):
        first = {k: ("first", ("p", k)) for k in range(8)}
        self.assertEqual(self.end_of("copy 4 p+1 p+0"), {
            ("p", k): first[at] for k, at in enumerate([0, 0, 1, 2, 3])})
        self.assertEqual(self.end_of("copy 4 p+0 p+1"), {
            ("p", k): first[at] for k, at in enumerate([1, 2, 3, 4, 4])})
        self.assertEqual(self.end_of("copy 6 p+2 p+0"), {
            ("p", k): first[at] for k, at in enumerate([0, 1, 0, 1, 2, 3, 4, 5])})
        self.assertEqual(self.end_of("copy 8 p+0 p+0"), {("p", k): first[k] for k in range(8)})

    def test_overlapping_things(self):
        run = self.lawful(ONE, "p", "write int4 p+0 5", "copy 4 p+1 p+0", "read x int4 p+1", "tell x")
        self.assertEqual(run.found(2), ("write", 0))
        self.assertEqual(run.end(), {("p", 0): ("int4", 0, 5), **{("p", k): ("int4", k - 1, 5) for k in range(1, 5)}})
        run = self.lawful(ONE, "p", "write int4 p+1 5", "copy 4 p+0 p+1", "read x int4 p+0")
        self.assertEqual(run.found(2), ("write", 0))
        self.assertEqual(run.end(), {("p", 4): ("int4", 3, 5), **{("p", k): ("int4", k, 5) for k in range(4)}})

    def test_overlapping_through_two_names(self):
        run = self.lawful((None, ("p", 1)), "p q", "write half2 p+0 5", "copy 2 q+0 p+0", "read x half2 p+1")
        self.assertEqual(run.found(2), ("write", 0))
        self.assertEqual(run.end(), {("p", 0): ("half2", 0, 5), ("p", 1): ("half2", 0, 5), ("p", 2): ("half2", 1, 5)})

    def test_parts_of_things_put_together_again(self):
        lines = ["write int4 p+0 5", "copy 2 q+2 p+2", "copy 2 q+0 p+0", "read x int4 q+0"]
        self.assertEqual(self.lawful(APART, "p q", *lines).found(3), ("write", 0))
        self.unlawful("torn", APART, "p q", *lines[:2], "copy 2 q+0 p+1", lines[3])
        self.unlawful("torn", APART, "p q", *lines[:2], "read x half2 q+2")

    def test_parts_from_and_onto_places(self):
        lines = ["write int4 a+0 5", "copy 2 p+0 a+0", "copy 2 p+2 a+2", "copy 4 a+0 p+0", "read x int4 a+0"]
        run = self.lawful(APART, "a=int4 p", *lines, "tell x")
        self.assertEqual((run.found(4), run.told()), (("write", 0), [5]))
        self.unlawful("place", APART, "a=int4 p", *lines[:2], "copy 2 a+0 p+0")
        self.unlawful("torn", APART, "a=int4 p", *lines[:2], "copy 4 a+0 p+0")
        self.lawful(APART, "a=int4 p", "write c1 p+3 5", "copy 1 p+3 a+3")

    def test_what_comes_in_onto_a_place(self):
        run = self.lawful(APART, "a=half2 p", "copy 2 a+0 p+0", "read x half2 p+0", "read y half2 a+0")
        self.assertEqual((run.found(1), run.found(2)), (("first", 0), ("first", 0)))
        self.assertEqual(run.end(), {
            ("a", 0): ("half2", 0, ("first", 0)), ("a", 1): ("half2", 1, ("first", 0)),
            ("p", 0): ("half2", 0, ("first", 0)), ("p", 1): ("half2", 1, ("first", 0))})

    def test_from_one_place_onto_another(self):
        run = self.lawful(APART, "a=half2 b=half2", "copy 2 b+0 a+0", "read x half2 b+0", "tell x")
        self.assertEqual((run.found(1), run.told()), (("first", 0), [("first", 0)]))

    def test_onto_itself_the_place_asks(self):
        run = self.lawful(ONE, "a=half2", "copy 2 a+0 a+0", "read x half2 a+0")
        self.assertEqual(run.found(1), ("first", 0))
        self.assertEqual(self.lawful(ONE, "a=half2", "copy 2 a+4 a+0").end()[("a", 0)], ("first", ("a", 0)))


class CameIn(Checks):
    def test_read_twice(self):
        run = self.lawful(ONE, "p", "read x int4 p+0", "read y int4 p+0", "tell y", "tell x")
        self.assertEqual((run.found(0), run.found(1)), (("first", 0), ("first", 0)))
        self.assertEqual(run.told(), [("first", 0), ("first", 0)])

    def test_two_things(self):
        run = self.lawful(ONE, "p", "read x half2 p+0", "read y half2 p+2", "tell y", "tell x")
        self.assertEqual(run.told(), [("first", 1), ("first", 0)])

    def test_read_through_two_names(self):
        lines = ["read x int4 p+0", "read y int4 q+0", "tell y"]
        self.assertEqual(self.lawful(SAME, "p q", *lines).told(), [("first", 0)])
        self.assertEqual(self.lawful(APART, "p q", *lines).told(), [("first", 1)])
        self.unlawful("clash", (None, ("p", 1)), "p q", *lines[:2])
        run = self.lawful((None, ("p", 4)), "p q", *lines[:2], "blank 1 p+4", "tell x", "tell y")
        self.assertEqual(run.told(), [("first", 0), ("first", 1)])

    def test_in_part(self):
        self.unlawful("clash", ONE, "p", "read x int4 p+0", "read y half2 p+0")
        self.lawful(ONE, "p", "read x half2 p+0", "read y half2 p+2")

    def test_brought_together_by_copies(self):
        lines = ["copy 1 r+0 p+0", "copy 1 r+1 q+1", "read x half2 r+0"]
        run = self.lawful((None, None, None), "p q r", *lines, "read y half2 p+0", "read z half2 q+0", "tell z")
        self.assertEqual([run.found(k) for k in (2, 3, 4)], [("first", 2)] * 3)
        self.assertEqual(run.told(), [("first", 2)])
        self.assertEqual(run.end()[("q", 0)], ("half2", 0, ("first", 2)))
        self.assertEqual(run.end()[("p", 0)], ("half2", 0, ("first", 2)))

    def test_joined_only_by_a_later_step(self):
        lines = ["read x half2 p+0", "read y half2 q+0", "tell y", "copy 1 p+1 q+1"]
        run = self.lawful(APART, "p q", *lines)
        self.assertEqual((run.found(0), run.found(1), run.told()), (("first", 0), ("first", 1), [("first", 1)]))
        run = self.lawful(APART, "p q", *lines, "read z half2 p+0")
        self.assertEqual([run.found(k) for k in (0, 1, 4)], [("first", 0)] * 3)
        self.assertEqual(run.told(), [("first", 0)])
        self.assertEqual(run.end(), {(name, k): ("half2", k, ("first", 0)) for name in "pq" for k in (0, 1)})

    def test_three_joined_by_two_later_steps(self):
        lines = ["read x half2 r+0", "read y half2 q+0", "read z half2 p+0", "copy 1 p+1 q+1", "read u half2 p+0"]
        run = self.lawful((None, None, None), "p q r", *lines)
        self.assertEqual([run.found(k) for k in (0, 1, 2, 4)], [("first", k) for k in (0, 1, 1, 1)])
        run = self.lawful((None, None, None), "p q r", *lines, "copy 1 p+0 r+0", "read v half2 p+0", "tell z")
        self.assertEqual([run.found(k) for k in (0, 1, 2, 4, 6)], [("first", 0)] * 5)
        self.assertEqual(run.told(), [("first", 0)])

    def test_the_ask_of_a_copy_counts(self):
        run = self.lawful(APART, "a=half2 p", "copy 2 p+2 p+0", "copy 2 a+0 p+2", "read x half2 p+0", "tell x")
        self.assertEqual((run.found(2), run.told()), (("first", 1), [("first", 1)]))

    def test_bytes_that_were_overwritten(self):
        run = self.lawful(ONE, "p", "copy 2 p+2 p+0", "write half2 p+0 1", "read x half2 p+2", "read y half2 p+0")
        self.assertEqual((run.found(2), run.found(3)), (("first", 2), ("write", 1)))

    def test_a_value_that_is_written_again(self):
        run = self.lawful(APART, "p q", "read x int4 p+0", "write half2 q+0 x", "read y half2 q+0", "write c1 q+4 y",
                          "read z c1 q+4", "tell z")
        self.assertEqual((run.found(2), run.found(4)), (("write", 1), ("write", 3)))
        self.assertEqual(run.told(), [("first", 0)])
        self.assertEqual(run.end()[("q", 4)], ("c1", 0, ("first", 0)))


class Found(Checks):
    LINES = ("write int4 p+0 7", "read x int4 p+0", "tell x", "read y half2 p+4", "blank 1 p+0", "read z int4 p+0",
             "read u half2 p+4")

    def refused(self, run, index):
        with self.assertRaises(NoStep) as caught:
            run.found(index)
        self.assertIs(caught.exception.index, index)
        self.assertNotIsInstance(caught.exception, KindError)

    def test_reads(self):
        run = Run(text_of("p", *self.LINES[:4]), ONE)
        self.assertEqual((run.found(1), run.found(3)), (("write", 0), ("first", 3)))
        self.assertEqual((run.found(index=1), type(run.found(1))), (("write", 0), tuple))

    def test_reads_before_and_behind_an_unlawful_step(self):
        run = Run(text_of("p", *self.LINES), ONE)
        self.assertEqual((run.at, run.reason), (5, "blank"))
        self.assertEqual((run.found(1), run.found(3)), (("write", 0), ("first", 3)))
        self.refused(run, 5)
        self.refused(run, 6)

    def test_other_steps_and_indexes(self):
        for many in (4, 7):
            run = Run(text_of("p", *self.LINES[:many]), ONE)
            for index in [0, 2, 4, -1, -3, -4, -6, 7, 8, 12, 10 ** 59, -10 ** 59]:
                self.refused(run, index)

    def test_copies_onto_places_are_no_reads(self):
        run = self.lawful(APART, "a=half2 p", "copy 2 a+0 p+0", "read x half2 a+0")
        self.refused(run, 0)
        self.assertEqual(run.found(1), ("first", 0))

    def test_other_values(self):
        runs = [Run(text_of("p", *self.LINES[1:4]), ONE), Run(text_of("p", *self.LINES), ONE), Run(Text(), ())]
        for run in runs:
            for index in OTHERS + ["", "x", "1", [0], (0,), ("read", "x", "int4", "p", 0), 10 ** 59]:
                self.refused(run, index)

    def test_truth_values_where_a_read_stands(self):
        run = self.lawful(ONE, "p", "read x c1 p+0", "read y c1 p+0")
        self.refused(run, True)
        self.refused(run, False)
        self.assertEqual(run.found(1), ("first", 0))

    def test_the_asks_of_an_unlawful_step_do_not_count(self):
        lines = ["read x half2 p+0", "read y half2 q+0", "read z pair2 r+0", "copy 1 p+1 q+1", "copy 1 r+0 p+0",
                 "read u half2 r+0"]
        run = self.unlawful("clash", (None, None, None), "p q r", *lines)
        self.assertEqual([run.found(k) for k in range(3)], [("first", k) for k in range(3)])
        self.assertEqual(run.end()[("p", 1)], ("half2", 1, ("first", 1)))


class Told(Checks):
    def test_integers(self):
        run = self.lawful(ONE, "p", "write int4 p+0 0", "read x int4 p+0", f"write int4 p+4 {-10 ** 39}",
                          "read y int4 p+4", "tell y", "tell x", "tell y")
        self.assertEqual(run.told(), [-10 ** 39, 0, -10 ** 39])
        self.assertTrue(all(type(value) is int for value in run.told()))

    def test_values_through_several_writes(self):
        run = self.lawful(ONE, "p", "write c1 p+0 7", "read x c1 p+0", "write c1 p+1 x", "read y c1 p+1",
                          "write half2 p+2 y", "read z half2 p+2", "write c1 p+0 8", "tell z")
        self.assertEqual(run.told(), [7])
        self.assertEqual(run.end()[("p", 3)], ("half2", 1, 7))

    def test_nothing_told(self):
        self.assertEqual(self.lawful(ONE, "p", "read x c1 p+0").told(), [])
        self.assertEqual(self.lawful((), "").told(), [])

    def test_up_to_an_unlawful_step(self):
        run = self.unlawful("blank", ONE, "p", "read x c1 p+1", "tell x", "blank 1 p+0", "read y c1 p+0")
        self.assertEqual(run.told(), [("first", 0)])
        lines = ["read x c1 p+1", "tell x", "blank 1 p+0", "read y c1 p+0", "tell x", "tell y"]
        self.assertEqual(Run(text_of("p", *lines), ONE).told(), [("first", 0)])

    def test_the_list_is_new_each_time(self):
        run = self.lawful(ONE, "p", "read x c1 p+1", "tell x")
        run.told().append(7)
        run.told().clear()
        self.assertEqual(run.told(), [("first", 0)])
        self.assertIs(type(run.told()), list)


class End(Checks):
    def test_no_name(self):
        self.assertEqual(self.lawful((), "").end(), {})

    def test_names_without_steps(self):
        self.assertEqual(self.lawful((None, None, None), "a=half2 p q").end(), {
            ("a", 0): ("first", ("a", 0)), ("a", 1): ("first", ("a", 1))})

    def test_each_thing_that_a_byte_may_bear(self):
        run = self.lawful(ONE, "p", "write half2 p+0 5", "blank 1 p+2", "read x half2 p+3", "copy 1 p+6 p+5",
                          "write c1 p+7 x")
        self.assertEqual(run.end(), {
            ("p", 0): ("half2", 0, 5), ("p", 1): ("half2", 1, 5), ("p", 2): None,
            ("p", 3): ("half2", 0, ("first", 2)), ("p", 4): ("half2", 1, ("first", 2)),
            ("p", 5): ("first", ("p", 5)), ("p", 6): ("first", ("p", 5)), ("p", 7): ("c1", 0, ("first", 2))})

    def test_bytes_of_heaps(self):
        lines = ["write half2 p+0 5", "write half2 q+0 6", "copy 1 r+7 q+1"]
        self.assertEqual(self.lawful((None, ("p", -1), None), "p q r", *lines).end(), {
            ("p", -1): ("half2", 0, 6), ("p", 0): ("half2", 1, 6), ("p", 1): ("half2", 1, 5),
            ("r", 7): ("half2", 1, 6)})
        self.assertEqual(self.lawful((None, ("p", 1), ("p", -5)), "p q r", *lines).end(), {
            ("p", 0): ("half2", 0, 5), ("p", 1): ("half2", 0, 6), ("p", 2): ("half2", 1, 6)})
        self.assertEqual(self.lawful((None, None, ("q", -6)), "p q r", *lines).end(), {
            ("p", 0): ("half2", 0, 5), ("p", 1): ("half2", 1, 5),
            ("q", 0): ("half2", 0, 6), ("q", 1): ("half2", 1, 6)})

    def test_bytes_far_from_where_the_heap_begins(self):
        lines = ["blank 1 p+0", "blank 1 p+7", "copy 1 q+0 q+7", "copy 1 r+7 r+0"]
        run = self.lawful((None, ("p", 7), ("p", 14)), "p q r", *lines)
        self.assertEqual(run.end(), {
            ("p", 0): None, ("p", 7): ("first", ("p", 14)), ("p", 14): ("first", ("p", 14)),
            ("p", 21): ("first", ("p", 14))})
        run = self.lawful((None, ("p", -7), ("p", -14)), "p q r", *lines)
        self.assertEqual(run.end(), {
            ("p", 0): None, ("p", 7): None, ("p", -7): ("first", ("p", -14)),
            ("p", -14): ("first", ("p", -14))})

    def test_the_block_of_a_place(self):
        run = self.lawful((None, ("a", 2)), "a=int4 p", "copy 1 p+2 p+1")
        self.assertEqual(run.end(), {
            **{("a", k): ("first", ("a", k)) for k in range(4)}, ("a", 4): ("first", ("a", 3))})
        run = self.lawful((None, ("a", -1)), "a=int4 p", "read x int4 p+1", "write c1 p+0 5")
        self.assertEqual(run.end(), {
            ("a", -1): ("c1", 0, 5), **{("a", k): ("int4", k, ("first", 0)) for k in range(4)}})

    def test_up_to_an_unlawful_step_with_the_bytes_of_all_steps(self):
        text = text_of("p q", "read x half2 p+0", "blank 1 p+1", "write c1 q+0 x", "read y c1 p+1", "write c1 p+2 9",
                       "blank 2 q+6")
        run = Run(text, APART)
        self.assertEqual((run.at, run.reason), (3, "blank"))
        self.assertEqual(run.end(), {
            ("p", 0): ("half2", 0, ("first", 0)), ("p", 1): None, ("p", 2): ("first", ("p", 2)),
            ("q", 0): ("c1", 0, ("first", 0)), ("q", 6): ("first", ("q", 6)), ("q", 7): ("first", ("q", 7))})

    def test_an_unlawful_copy_or_write_lays_nothing(self):
        run = Run(text_of("a=half2 p", "copy 2 p+0 p+1", "write pair2 a+0 1"), APART)
        self.assertEqual((run.at, run.reason), (1, "place"))
        self.assertEqual(run.end()[("a", 0)], ("first", ("a", 0)))
        run = Run(text_of("a=half2 p", "write pair2 p+0 1", "copy 2 a+0 p+0"), APART)
        self.assertEqual((run.at, run.reason), (1, "kind"))
        self.assertEqual(run.end()[("a", 1)], ("first", ("a", 1)))

    def test_the_dict_is_new_each_time(self):
        run = self.lawful(ONE, "p", "blank 1 p+1")
        run.end().clear()
        run.end()[("p", 1)] = 7
        self.assertEqual(run.end(), {("p", 1): None})
        self.assertIs(type(run.end()), dict)


class Made(Checks):
    TEXT = text_of("p q", "read x half2 p+0", "write half2 q+0 x")

    def refused(self, text, thing):
        before = copy.deepcopy(thing)
        with self.assertRaises(NoLaying) as caught:
            Run(text, thing)
        self.assertIs(caught.exception.laying, thing)
        self.assertEqual(thing, before)

    def test_no_laying(self):
        wrong = [(), (None,), (None, None, None), (None, ("p", 2)), (None, ("p", -2)), (None, ("q", 0)),
                 (("p", 0), None), (("q", 0), None), (None, ["p", 0]), [None, None], [None, ("p", 0)],
                 (None, ("p", True)), (None, ("p", False)), (None, ("p", 0, 0)), (None, ("p",)), (None, "p"),
                 (None, 0), (False, False), ((), ()), (None, ("p", 10 ** 59)), "", "p", 0, 1, self.TEXT]
        for thing in wrong + [thing for thing in OTHERS if thing != ()]:
            self.refused(self.TEXT, thing)

    def test_no_laying_of_the_empty_text(self):
        self.lawful((), "")
        for thing in [None, [], (None,), 0, "", False, ((),)]:
            self.refused(Text(), thing)

    def test_by_name(self):
        run = Run(text=self.TEXT, laying=APART)
        self.assertEqual((run.lawful, run.at, run.reason), (True, None, None))

    def test_neither_the_text_nor_the_laying_changes(self):
        before = (self.TEXT.places, self.TEXT.pointers, self.TEXT.steps)
        run = Run(self.TEXT, SAME)
        run.end()
        self.assertEqual((self.TEXT.places, self.TEXT.pointers, self.TEXT.steps), before)

    def test_runs_do_not_share_state(self):
        text = text_of("p q", "write c1 p+0 1", "read x c1 q+0", "tell x")
        apart, same = Run(text, APART), Run(text, SAME)
        self.assertEqual((apart.found(1), same.found(1)), (("first", 1), ("write", 0)))
        self.assertEqual((apart.told(), same.told()), ([("first", 1)], [1]))
        self.assertEqual((Run(text, APART).end(), Run(text, SAME).end()), (apart.end(), same.end()))

    def test_what_a_run_was_made_of_may_change(self):
        text = Text((), ("p",), (("read", "x", "c1", "p", 0), ("tell", "x")))
        run = Run(text, ONE)
        text.steps, text.pointers = (), ()
        self.assertEqual((run.found(0), run.told()), (("first", 0), [("first", 0)]))
        self.assertEqual(run.end(), {("p", 0): ("c1", 0, ("first", 0))})

    def test_no_property_is_assigned(self):
        run = Run(self.TEXT, APART)
        for name in ("lawful", "at", "reason"):
            with self.assertRaises(AttributeError):
                setattr(run, name, 7)


if __name__ == "__main__":
    unittest.main()
