"""Pairs: point [15], and what point [3] says of them."""

import unittest

import oracle
import trying
from lastkind.layings import layings
from lastkind.pairs import binding, meets, needs
from lastkind.texts import Text
from values import text_of

APART = (None, None)


def at(distance):
    return (None, ("p", distance))


class Meets(unittest.TestCase):
    def check(self, wanted, head, *lines):
        text = text_of(head, *lines)
        found = meets(text)
        self.assertEqual(found, wanted, lines)
        self.assertTrue(all(type(row) is tuple for row in found))
        self.assertEqual(binding(text), sorted({(i, j) for i, j, _ in wanted} | set(trying.needs(text))))

    def test_the_example_of_the_layings(self):
        self.check([(0, 1, at(0))], "p q", "read x int4 p+0", "write half2 q+0 1")

    # One line of each word, at p + 2 and at q + 3; a copy has its other bytes far behind.
    P = {"read": "read x c1 p+2", "write": "write c1 p+2 1", "target": "copy 1 p+2 r+0",
         "source": "copy 1 r+0 p+2", "blank": "blank 1 p+2"}
    Q = {"read": "read y c1 q+3", "write": "write c1 q+3 1", "target": "copy 1 q+3 r+4",
         "source": "copy 1 r+4 q+3", "blank": "blank 1 q+3"}
    WRITING = ("write", "target", "blank")

    def test_each_two_words(self):
        for one, line in self.P.items():
            for other, later in self.Q.items():
                found = {(i, j): laying for i, j, laying in meets(text_of("p q r", line, later))}
                laying = found.get((0, 1))
                if (one, other) == ("blank", "read"):
                    self.assertIsNone(laying, "a blank byte is not read")
                elif one in self.WRITING or other in self.WRITING:
                    self.assertEqual(laying, (None, ("p", -1), None), (one, other))
                elif "source" in (one, other):
                    # They meet elsewhere: one copies to where the other one reads.
                    self.assertNotEqual(laying, (None, ("p", -1), None), (one, other))
                else:
                    self.assertIsNone(laying, (one, other))

    def test_each_two_words_at_one_byte_of_one_pointer(self):
        same = {word: line.replace("q+3", "p+2") for word, line in self.Q.items()}
        for one, line in self.P.items():
            for other, later in same.items():
                text = text_of("p r", line, later)
                wanted = (one in self.WRITING or other in self.WRITING) and (one, other) != ("blank", "read")
                rows = [row for row in meets(text) if row[2] == APART]
                self.assertEqual(rows, [(0, 1, APART)] if wanted else [], (one, other))

    def test_tells_meet_nothing(self):
        self.check([], "p", "read x c1 p+0", "tell x", "tell x")
        self.check([(0, 2, (None,))], "p", "read x c1 p+0", "tell x", "write c1 p+0 1")

    def test_reads_of_one_byte_do_not_meet(self):
        self.check([], "p q", "read x c1 p+0", "read y c1 q+0", "read z c1 p+0")

    def test_a_read_and_a_source_of_one_byte_do_not_meet(self):
        self.check([], "p", "read x c1 p+0", "copy 1 p+3 p+0")
        self.check([], "p", "copy 1 p+3 p+0", "read x c1 p+0")
        self.check([(0, 1, (None,))], "p", "copy 1 p+3 p+0", "copy 1 p+4 p+3")
        self.check([], "p", "copy 2 p+2 p+0", "copy 1 p+4 p+1")

    def test_a_source_and_a_target(self):
        self.check([(0, 1, (None,))], "p", "copy 1 p+3 p+0", "copy 1 p+0 p+5")
        self.check([(0, 1, (None,))], "p", "copy 2 p+0 p+0", "read x c1 p+1")

    def test_one_byte_of_several(self):
        for first in range(8):
            wanted = [(0, 1, (None,))] if 2 <= first <= 5 else []
            self.check(wanted, "p", "write rgb3 p+3 1", f"copy {min(2, 8 - first)} p+{first} p+{first}")
            if first <= 6:
                self.check(wanted, "p", "write rgb3 p+3 1", f"write half2 p+{first} 1")

    def test_the_edges_of_a_stretch(self):
        self.check([], "p", "write half2 p+0 1", "write half2 p+2 1")
        self.check([(0, 1, (None,))], "p", "write half2 p+0 1", "write half2 p+1 1")
        self.check([], "p", "blank 4 p+0", "blank 4 p+4")
        self.check([(0, 1, (None,))], "p", "blank 5 p+0", "blank 4 p+4")

    def test_the_least_distance(self):
        self.check([(0, 1, at(-1))], "p q", "read x int4 p+0", "write half2 q+4 1")
        self.check([(0, 1, at(3))], "p q", "write int4 p+4 1", "write half2 q+0 1")
        self.check([(0, 1, at(7))], "p q", "write c1 p+7 1", "write c1 q+0 1")
        self.check([(0, 1, at(-7))], "p q", "write c1 p+0 1", "write c1 q+7 1")

    def test_of_two_distances_the_negative_one(self):
        # At 0 a byte is read that bears nothing; at -1 and at 1 it is one that was written again.
        self.check([(0, 1, APART), (0, 2, APART), (0, 3, at(-1)), (1, 3, at(-1)), (2, 3, at(1))], "p q",
                   "blank 3 p+2", "write c1 p+2 1", "write c1 p+4 2", "read x c1 q+3")

    def test_a_place(self):
        self.check([(0, 1, (None, ("a", 0)))], "a=int4 p", "read x int4 a+0", "write int4 p+0 1")
        self.check([], "a=int4 p", "read x int4 a+0", "write word4 p+0 1")
        self.check([], "a=int4 p", "read x int4 a+0", "blank 1 p+0")
        self.check([(0, 1, (None, ("a", 0)))], "a=int4 p", "copy 2 a+6 a+1", "write int4 p+0 1")

    def test_two_places_never_meet(self):
        self.check([], "a=int4 b=int4", "write int4 a+0 1", "write int4 b+0 1")

    def test_two_places_of_unlike_kinds(self):
        lines = ["write half2 p+0 1", "read x half2 b+0", "write int4 a+0 2"]
        self.check([(0, 1, (None, None, ("b", 0)))], "a=int4 b=half2 p", *lines)
        self.check([(0, 1, (None, None, ("b", 0)))], "a=word4 b=half2 p", *lines[:2], "write word4 a+0 2")
        lines = ["write half2 p+0 1", "read x half2 a+0", "write int4 b+0 2"]
        self.check([(0, 1, (None, None, ("a", 0)))], "a=half2 b=int4 p", *lines)
        lines = ["read x half2 p+0", "write half2 a+0 1", "write half2 b+0 2"]
        self.check([(0, 1, (None, None, ("a", 0))), (0, 2, (None, None, ("b", 0)))], "a=half2 b=half2 p", *lines)


class OtherSteps(unittest.TestCase):
    def found(self, head, *lines):
        return {(i, j): laying for i, j, laying in meets(text_of(head, *lines))}

    def test_only_where_a_third_name_lies_there_too(self):
        lines = ["blank 1 p+0", "write c1 r+0 1", "read x c1 q+0"]
        found = self.found("p q r", *lines)
        self.assertEqual(found, {
            (0, 1): (None, None, ("p", 0)), (1, 2): (None, None, ("q", 0)), (0, 2): (None, ("p", 0), ("p", 0))})
        self.assertEqual(self.found("p q", lines[0], lines[2]), {})

    def test_no_longer_with_an_earlier_step(self):
        lines = ["read x int4 p+0", "read y word4 q+0", "write int4 q+0 1"]
        self.assertEqual(self.found("p q", lines[0], lines[2]), {(0, 1): at(0)})
        self.assertEqual(self.found("p q", *lines), {(1, 2): APART})

    def test_no_longer_with_a_later_step(self):
        lines = ["write c1 p+0 1", "write d1 q+0 2", "read x c1 p+0"]
        self.assertEqual(self.found("p q", *lines[:2]), {(0, 1): at(0)})
        self.assertEqual(self.found("p q", *lines), {(0, 2): APART})

    def test_elsewhere_with_a_later_step(self):
        lines = ["write half2 p+0 1", "write half2 q+0 2"]
        self.assertEqual(self.found("p q", *lines), {(0, 1): at(0)})
        # Apart, and on the very bytes, another kind would be read.
        self.assertEqual(self.found("p q", "write c1 p+0 1", "write half2 q+0 2", "read x half2 q+0",
                                    "read y c1 p+0"), {(0, 3): APART, (1, 2): APART})

    def test_without_a_lawful_laying(self):
        text = text_of("p q", "write int4 q+0 1", "read x c1 q+0", "write half2 q+0 x", "tell x")
        self.assertEqual(layings(text, lawful=True), [])
        self.assertEqual(meets(text), [])
        self.assertEqual(needs(text), [(1, 2), (1, 3)])
        self.assertEqual(binding(text), [(1, 2), (1, 3)])


class Needs(unittest.TestCase):
    def check(self, wanted, head, *lines):
        found = needs(text_of(head, *lines))
        self.assertEqual(found, wanted)
        self.assertTrue(all(type(pair) is tuple for pair in found))

    def test_a_read_and_its_uses(self):
        self.check([(0, 1), (0, 3)], "p q", "read x c1 p+0", "write c1 q+0 x", "read y c1 p+0", "tell x")
        self.check([(0, 2), (1, 3)], "p q", "read x c1 p+0", "read y c1 q+0", "tell x", "write c1 q+4 y")

    def test_tells(self):
        self.check([(0, 1), (0, 2), (0, 3), (1, 2), (1, 3), (2, 3)], "p",
                   "read x c1 p+0", "tell x", "tell x", "tell x")
        self.check([(0, 1), (1, 3), (2, 3)], "p", "read x c1 p+0", "tell x", "read y c1 p+0", "tell y")

    def test_a_value_is_no_name(self):
        # The names of a kind, of a pointer and of a read may be alike but for their place in the line.
        self.check([], "p x", "read y x1 p+0", "write x1 x+0 1", "read z x1 x+0", "copy 1 x+0 x+0", "blank 1 x+0")
        self.check([(0, 1)], "p", "read x c1 p+0", "tell x", "write c1 p+0 5", "read y c1 p+0", "blank 1 p+0")

    def test_none(self):
        self.check([], "")
        self.check([], "p", "read x c1 p+0")


class Binding(unittest.TestCase):
    def test_sorted_and_without_duplicates(self):
        text = text_of("p", "read x c1 p+0", "write c1 p+0 x", "tell x", "write c1 p+0 1", "tell x")
        self.assertEqual(binding(text), [(0, 1), (0, 2), (0, 3), (0, 4), (1, 3), (2, 4)])
        self.assertEqual([row[:2] for row in meets(text)], [(0, 1), (0, 3), (1, 3)])
        self.assertEqual(needs(text), [(0, 1), (0, 2), (0, 4), (2, 4)])

    def test_edges(self):
        for note in ["", "pointer p", "pointer p\nblank 1 p+0", "place a int4\nplace b int4"]:
            for ask in (meets, needs, binding):
                self.assertEqual(ask(Text.read(note)), [])

    def test_new_lists_each_time(self):
        text = text_of("p", "read x c1 p+0", "write c1 p+0 x", "tell x")
        for ask in (meets, needs, binding):
            first = ask(text)
            kept = list(first)
            first.append(None)
            ask(text).clear()
            self.assertEqual(ask(text), kept)
            self.assertIs(type(ask(text)), list)
            self.assertEqual(ask(text=text), kept)

    def test_the_text_does_not_change(self):
        text = text_of("a=c1 p", "read x c1 p+0", "write c1 a+0 x", "tell x")
        before = (text.places, text.pointers, text.steps)
        for ask in (meets, needs, binding):
            ask(text)
        self.assertEqual((text.places, text.pointers, text.steps), before)


class Headers(unittest.TestCase):
    """The same steps under other places and pointers: each text has its own results."""

    STEPS = (("read", "x", "half2", "p", 0), ("write", "half2", "q", 0, "x"), ("write", "half2", "q", 2, 1),
             ("copy", 2, "p", 0, "q", 0), ("read", "y", "half2", "p", 0), ("tell", "y"))
    HEADS = [((), ("p", "q")), ((), ("q", "p")), ((("p", "half2"),), ("q",)), ((("q", "half2"),), ("p",)),
             ((("p", "half2"), ("q", "half2")), ()), ((("q", "half2"), ("p", "half2")), ()),
             ((("p", "half2"), ("q", "pair2")), ()), ((("p", "pair2"), ("q", "half2")), ()),
             ((("q", "pair2"), ("p", "half2")), ()), ((("p", "c1"),), ("q",)), ((), ("p", "q", "r")),
             ((("r", "half2"),), ("p", "q")), ((("r", "pair2"),), ("q", "p"))]

    def test_in_any_order_and_several_times(self):
        texts = [Text(places, pointers, self.STEPS) for places, pointers in self.HEADS]
        alone = [trying.meets(text) for text in texts]
        self.assertGreater(len({str(rows) for rows in alone}), 4)
        rounds = list(range(len(texts)))
        for turn in (rounds, rounds[::-1], rounds[1::2] + rounds[::2]):
            for k in turn + turn:
                for text in (texts[k], Text(*self.HEADS[k], self.STEPS)):
                    self.assertEqual(meets(text), alone[k], self.HEADS[k])
                    pairs = sorted({row[:2] for row in alone[k]} | set(trying.needs(text)))
                    self.assertEqual(binding(text), pairs, self.HEADS[k])


class Trials(unittest.TestCase):
    FORMS = [
        {"places": 0, "pointers": 2, "steps": 7, "width": 3, "kinds": ("half2", "c1")},
        {"places": 0, "pointers": 3, "steps": 5, "width": 2, "kinds": ("c1", "d1")},
        {"places": 1, "pointers": 1, "steps": 7, "width": 3, "kinds": ("half2", "c1")},
        {"places": 2, "pointers": 2, "steps": 6, "width": 2, "kinds": ("half2", "pair2", "c1")},
    ]

    def test_against_all_callers(self):
        rows = 0
        for form in self.FORMS:
            for seed in range(60):
                text = oracle.made_text(seed, **form)
                found = meets(text)
                self.assertEqual(found, trying.meets(text), text.steps)
                self.assertEqual(needs(text), trying.needs(text))
                self.assertEqual(binding(text), sorted({row[:2] for row in found} | set(trying.needs(text))))
                rows += len(found)
        self.assertGreater(rows, 500)


if __name__ == "__main__":
    unittest.main()
