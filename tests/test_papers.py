"""Papers: point [22]."""

import copy
import itertools
import unittest

import oracle
import trying
from lastkind.errors import NoStep
from lastkind.layings import layings
from lastkind.pairs import meets
from lastkind.papers import holds, paper
from lastkind.runs import Run
from lastkind.texts import Text
from values import OTHERS, text_of

APART = (None, None)


def at(distance):
    return (None, ("p", distance))


class Papers(unittest.TestCase):
    def check(self, wanted, text, i, j):
        found = paper(text, i, j)
        self.assertEqual(found, wanted, (text.steps, i, j))
        self.assertIs(type(found), tuple)
        self.assertEqual(paper(text=text, i=i, j=j), wanted)
        self.assertIs(holds(text, i, j, found), True)
        self.assertIs(holds(text=text, i=i, j=j, thing=found), True)

    # The read of another kind meets the write under no lawful laying.
    OTHER = text_of("p q", "write half2 p+0 1", "read x pair2 q+0", "write c1 q+1 2")
    ROWS = [(at(0), 1, "kind"), (at(-1), 1, "torn"), (at(1), 1, "torn")]

    def test_meets(self):
        self.check(("meets", (None,)), text_of("p", "blank 1 p+0", "blank 1 p+0"), 0, 1)
        self.check(("meets", at(0)), text_of("p q", "read x int4 p+0", "write half2 q+0 1"), 0, 1)
        self.check(("meets", APART), self.OTHER, 1, 2)

    def test_apart(self):
        self.check(("apart", self.ROWS), self.OTHER, 0, 1)
        self.check(("apart", self.ROWS[:2]), self.OTHER, 0, 2)

    def test_the_reasons(self):
        lines = ["write c1 p+0 1", "blank 1 q+0", "read x c1 q+1", "read y c1 p+0"]
        self.check(("apart", [(at(0), 3, "blank")]), text_of("p q", *lines), 0, 1)
        text = text_of("a=half2 p", "read x half2 a+0", "blank 2 p+0")
        self.check(("apart", [((None, ("a", d)), 1, "place") for d in (0, -1, 1)]), text, 0, 1)
        text = text_of("p q", "read x c1 p+0", "read y d1 q+0", "write c1 p+0 1", "blank 1 q+0")
        self.check(("apart", [(at(0), 1, "clash")]), text, 0, 3)
        self.check(("apart", [(at(0), 1, "clash")]), text, 2, 3)
        self.check(("meets", APART), text, 0, 2)

    def test_of_steps_that_never_touch(self):
        for i, j in [(0, 1), (0, 2), (1, 2)]:
            self.check(("apart", []), text_of("p", "read x c1 p+0", "tell x", "write c1 p+1 1"), i, j)
        self.check(("apart", []), text_of("p q", "read x c1 p+0", "read y c1 q+0"), 0, 1)
        self.check(("apart", []), text_of("a=c1 b=c1", "write c1 a+0 1", "write c1 b+0 1"), 0, 1)

    def test_all_layings_in_order(self):
        text = text_of("p q r", "write c1 p+0 1", "read x d1 q+0", "blank 1 r+3")
        same = (None, ("p", 0))
        self.check(("apart", [((*same, None), 1, "kind"), ((*same, ("p", -3)), 1, "kind")]), text, 0, 1)

    def test_without_a_lawful_laying(self):
        text = text_of("p", "write c1 p+0 1", "read x d1 p+0", "blank 1 p+0")
        for i, j in [(0, 1), (0, 2), (1, 2)]:
            self.check(("apart", [((None,), 1, "kind")]), text, i, j)

    def test_new_lists(self):
        paper(self.OTHER, 0, 1)[1].clear()
        self.check(("apart", self.ROWS), self.OTHER, 0, 1)
        self.assertIs(type(paper(self.OTHER, 0, 1)[1]), list)

    def test_every_pair_of_several_texts(self):
        words = {"meets": 0, "apart": 0}
        for seed in range(70):
            text = oracle.made_text(seed, places=1, pointers=2, steps=6, kinds=("half2", "c1", "d1"))
            met = {(i, j): laying for i, j, laying in meets(text)}
            for i, j in itertools.combinations(range(len(text)), 2):
                if (i, j) in met:
                    self.check(("meets", met[(i, j)]), text, i, j)
                    words["meets"] += 1
                else:
                    rows = self.touching(text, i, j)
                    self.check(("apart", rows), text, i, j)
                    words["apart"] += rows != []
        self.assertGreater(min(words.values()), 40, words)

    def touching(self, text, i, j):
        found = []
        for laying in layings(text):
            if trying.meet(trying.touched(text, laying), i, j):
                run = Run(text, laying)
                found.append((laying, run.at, run.reason))
        return found


class Holds(unittest.TestCase):
    MEETING = text_of("p q", "read x int4 p+0", "write half2 q+0 1", "read y c1 p+4")
    OTHER, ROWS = Papers.OTHER, Papers.ROWS

    def check(self, wanted, text, i, j, thing):
        before = copy.deepcopy(thing) if not isinstance(thing, Text) else thing
        self.assertIs(holds(text, i, j, thing), wanted, thing)
        if not isinstance(thing, Text):
            self.assertEqual(thing, before)

    def test_every_laying(self):
        for text, i, j in [(self.MEETING, 0, 1), (self.MEETING, 0, 2), (self.MEETING, 1, 2), (self.OTHER, 0, 1),
                           (self.OTHER, 0, 2), (self.OTHER, 1, 2)]:
            for laying in layings(text):
                meet = trying.meet(trying.touched(text, laying), i, j) and Run(text, laying).lawful
                self.check(meet, text, i, j, ("meets", laying))
                self.check(False, text, i, j, ("apart", laying))

    def test_every_laying_of_made_texts(self):
        lawful = 0
        for seed in range(40):
            text = oracle.made_text(seed, places=1, pointers=2, steps=5, kinds=("half2", "c1"))
            runs = [(laying, Run(text, laying).lawful, trying.touched(text, laying)) for laying in layings(text)]
            for i, j in itertools.combinations(range(len(text)), 2):
                for laying, good, rows in runs:
                    self.check(good and trying.meet(rows, i, j), text, i, j, ("meets", laying))
                    lawful += good and trying.meet(rows, i, j)
        self.assertGreater(lawful, 200)

    def test_what_is_no_laying(self):
        for thing in [(None,), (None, ("p", 9)), (None, ("p", False)), (None, ["p", 0]), [None, ("p", 0)], None, "", 0,
                      (None, ("p", 0), None), (False, ("p", 0)), (("q", 0), None), self.MEETING, (None, ("p", "0"))]:
            self.check(False, self.MEETING, 0, 1, ("meets", thing))
        self.check(True, self.MEETING, 0, 1, ("meets", at(0)))

    def test_other_forms(self):
        for thing in OTHERS + [("meets",), ("meets", at(0), None), ["meets", at(0)], ("apart", at(0)), (at(0), "meets"),
                               ("Meets", at(0)), (["meets"], at(0)), (("meets",), at(0)), (True, at(0)), (None, at(0)),
                               at(0), "meets", 0, ("apart", []), ("apart", [(at(0), None, None)]), self.MEETING,
                               (self.MEETING, at(0)), ("", at(0))]:
            self.check(False, self.MEETING, 0, 1, thing)

    def test_the_due_list_alone(self):
        due = ("apart", self.ROWS)
        self.check(True, self.OTHER, 0, 1, due)
        self.check(True, self.OTHER, 0, 1, ("apart", list(self.ROWS)))
        first = self.ROWS[0]
        for rows in [[], self.ROWS[:2], self.ROWS[1:], self.ROWS[::-1], [*self.ROWS, first], [first, *self.ROWS],
                     [*self.ROWS, (APART, 1, "kind")], tuple(self.ROWS), None, 0, "", self.ROWS[0]]:
            self.check(False, self.OTHER, 0, 1, ("apart", rows))
        self.check(False, self.OTHER, 0, 1, ["apart", self.ROWS])
        self.check(False, self.OTHER, 0, 1, ("apart", self.ROWS, None))
        self.check(False, self.OTHER, 0, 1, ("meets", self.ROWS))

    def test_each_part_of_a_row(self):
        for row in [(at(0), 1, "torn"), (at(0), 2, "kind"), (at(0), 0, "kind"), (at(0), True, "kind"),
                    (at(0), 1.0, "kind"), (at(0), "1", "kind"), (at(0), None, None), (at(0), 1, None), (at(0), 1),
                    (at(0), 1, "kind", None), [at(0), 1, "kind"], (list(at(0)), 1, "kind"), (APART, 1, "kind"),
                    ((None, ["p", 0]), 1, "kind"), ((None, ("p", False)), 1, "kind"), ((None, ("p", 0.0)), 1, "kind"),
                    ((False, ("p", 0)), 1, "kind"), ((None, ("p", 1)), 1, "kind"), ((None, ("q", 0)), 1, "kind"),
                    ((None, ("p", 0), None), 1, "kind"), (("p", 0), 1, "kind"), None, (), 1, "kind", at(0), [None],
                    (at(0), 1, ("kind",)), (at(0), (1,), "kind"), (at(0), 1, b"kind")]:
            self.check(False, self.OTHER, 0, 1, ("apart", [row, *self.ROWS[1:]]))

    def test_truth_values_within_a_due_list(self):
        # The distance 1 and the index 1 stand there; True is neither.
        self.assertEqual(self.ROWS[2], (at(1), 1, "torn"))
        for row in [(at(True), 1, "torn"), (at(1), True, "torn")]:
            self.assertEqual(row, self.ROWS[2])
            self.check(False, self.OTHER, 0, 1, ("apart", [*self.ROWS[:2], row]))

    def test_an_empty_due_list(self):
        text = text_of("p q", "read x c1 p+0", "read y c1 q+0")
        self.check(True, text, 0, 1, ("apart", []))
        for thing in [("apart", ()), ("apart", None), ("apart", [[]]), ("meets", APART), ("meets", at(0)), ("apart",)]:
            self.check(False, text, 0, 1, thing)

    def test_a_list_for_a_pair_that_meets(self):
        rows = [(laying, Run(self.MEETING, laying).at, Run(self.MEETING, laying).reason)
                for laying in layings(self.MEETING)]
        self.check(False, self.MEETING, 0, 1, ("apart", rows))
        self.check(False, self.MEETING, 0, 1, ("apart", [row for row in rows if row[1] is not None]))


class Steps(unittest.TestCase):
    TEXT = text_of("p", "blank 1 p+0", "blank 1 p+1", "blank 1 p+2")

    def refused(self, wrong, text, i, j):
        for ask in [lambda: paper(text, i, j), lambda: holds(text, i, j, ("apart", [])), lambda: holds(text, i, j, None)]:
            with self.assertRaises(NoStep) as caught:
                ask()
            self.assertIs(caught.exception.index, wrong)

    def test_the_first_one(self):
        for i in [-1, 3, 10 ** 59, True, False, None, "0", (0,), [0], self.TEXT]:
            for j in (0, 1, 2, 3, None, i):
                self.refused(i, self.TEXT, i, j)
        self.refused(0, Text(), 0, 1)

    def test_the_second_one(self):
        for i in (0, 1, 2):
            for j in [-1, 3, 10 ** 59, True, False, None, "1", (1,), [2], self.TEXT, *range(i + 1)]:
                self.refused(j, self.TEXT, i, j)

    def test_those_that_are_good(self):
        for i, j in [(0, 1), (0, 2), (1, 2)]:
            self.assertEqual(paper(self.TEXT, i, j), ("apart", []))


if __name__ == "__main__":
    unittest.main()
