"""Standing for a text: points [19] and [14]."""

import random
import unittest

import trying
from lastkind.errors import BadText
from lastkind.finds import finds
from lastkind.layings import layings
from lastkind.orders import orders, turned
from lastkind.standing import forwarded, stands
from lastkind.texts import Text
from values import text_of

ONE = (None,)
APART = (None, None)


def at(distance):
    return (None, ("p", distance))


class Stands(unittest.TestCase):
    def check(self, wanted, head, lines, others):
        found = stands(text_of(head, *lines), text_of(head, *others))
        self.assertEqual(found, wanted, (lines, others))
        self.assertIn(type(found), (tuple, type(None)))

    def both(self, head, lines, others):
        self.check(None, head, lines, others)
        self.check(None, head, others, lines)

    def test_equal_texts(self):
        for text in Text(), text_of("a=c1 b=half2 p q"), text_of("p", "read x c1 p+0", "tell x", "write c1 p+1 x"):
            self.assertIsNone(stands(text, text))
            self.assertIsNone(stands(text=text, other=Text(text.places, text.pointers, text.steps)))

    def test_other_value_names(self):
        self.both("p", ["read x c1 p+0", "read y c1 p+1", "tell x", "tell y"],
                  ["read y c1 p+0", "read x c1 p+1", "tell y", "tell x"])
        self.check((ONE, "told"), "p", ["read x c1 p+0", "read y c1 p+1", "tell x", "tell y"],
                   ["read x c1 p+0", "read y c1 p+1", "tell y", "tell x"])

    def test_a_step_less_and_a_step_more(self):
        write, twice = ["write c1 p+0 1"], ["write c1 p+0 1", "write c1 p+0 1"]
        self.both("p", write, twice)
        self.check((ONE, "end"), "p", write, [])
        self.check((ONE, "end"), "p", [], write)
        self.both("p", ["read x c1 p+0"], ["read x c1 p+0", "read y c1 p+0"])
        self.check(None, "p", ["read x c1 p+0"], [])
        self.check((ONE, "unlawful"), "p", [], ["read x c1 p+0"])
        self.check((ONE, "told"), "p", ["read x c1 p+0", "tell x"], ["read x c1 p+0", "tell x", "tell x"])
        self.check((ONE, "told"), "p", ["read x c1 p+0", "tell x", "tell x"], ["read x c1 p+0", "tell x"])
        self.check((ONE, "end"), "p", ["blank 1 p+0"], [])

    def test_two_steps_exchanged(self):
        lines = ["write c1 p+0 1", "write c1 q+0 2"]
        self.check((at(0), "end"), "p q", lines, lines[::-1])
        self.both("p", ["write c1 p+0 1", "write c1 p+1 2"], ["write c1 p+1 2", "write c1 p+0 1"])
        lines = ["write int4 p+0 1", "read x word4 q+0"]
        self.check(None, "p q", lines, lines[::-1])
        self.check((at(0), "unlawful"), "p q", lines[::-1], lines)

    def test_another_value_and_another_kind(self):
        self.check((ONE, "end"), "p", ["write c1 p+0 1"], ["write c1 p+0 2"])
        self.check((ONE, "end"), "p", ["write c1 p+0 1"], ["write d1 p+0 1"])
        self.check((ONE, "end"), "p", ["write half2 p+0 1"], ["write c1 p+0 1", "write c1 p+1 1"])
        self.check((ONE, "end"), "p", ["write int4 p+0 0"], ["write int4 p+0 -1"])
        self.check((ONE, "unlawful"), "p", ["read x c1 p+0"], ["read x d1 p+0"])
        self.check((ONE, "unlawful"), "p", ["read x half2 p+0"], ["read x c1 p+0"])

    def test_another_place_of_a_thing(self):
        lines = ["write half2 p+0 1", "copy 1 p+4 p+0"]
        self.check((ONE, "end"), "p", lines, ["write half2 p+0 1", "copy 1 p+4 p+1"])
        self.both("p", [*lines, "copy 1 p+5 p+1"], ["write half2 p+4 1", "copy 2 p+0 p+4"])

    def test_a_copy_in_the_place_of_a_read_and_a_write(self):
        moved, copied = ["read x int4 p+0", "write int4 p+4 x"], ["copy 4 p+4 p+0"]
        self.check(None, "p", moved, copied)
        self.check((ONE, "unlawful"), "p", copied, moved)
        self.both("p", moved, ["read x int4 p+0", *copied])
        self.both("p", ["read x half2 p+0", "write half2 p+0 x"], ["read y half2 p+0"])
        self.check((ONE, "end"), "p", moved, ["copy 3 p+4 p+0"])

    def test_what_came_in(self):
        same = ["read x half2 p+0", "copy 2 p+2 p+0"]
        self.both("p", [*same, "read y half2 p+2", "tell y"], [*same, "tell x"])
        self.check((ONE, "told"), "p", ["read x c1 p+0", "read y c1 p+1", "tell x"],
                   ["read x c1 p+0", "read y c1 p+1", "tell y"])
        joined = ["read x half2 p+0", "read y half2 p+2", "copy 1 p+4 p+0", "copy 1 p+5 p+3", "read z half2 p+4"]
        self.both("p", [*joined, "tell x"], [*joined, "tell y"])
        self.check((ONE, "unlawful"), "p", [*joined[:2], "tell x"], [*joined, "tell x"])
        self.both("p", [*joined[:2], *joined[:1][:0]], ["read y half2 p+2", "read x half2 p+0"])

    def test_asks_that_follow_from_asks_of_other_steps(self):
        asked = ["read x half2 p+0"]
        self.check(None, "p", [*asked, "copy 2 p+2 p+0"], [*asked, "copy 2 p+2 p+0", "read y half2 p+2"])
        self.check((ONE, "unlawful"), "p", asked, [*asked, "read y half2 p+2"])
        self.check((ONE, "unlawful"), "p", asked, [*asked, "copy 1 p+2 p+0", "read y half2 p+2"])
        # Each byte is asked for, but perhaps for two things.
        two = ["read x half2 p+0", "read y half2 p+2"]
        self.check((ONE, "unlawful"), "p", two, [*two, "copy 1 p+4 p+0", "copy 1 p+5 p+3", "read z half2 p+4"])
        self.check((ONE, "unlawful"), "p", two, ["copy 1 p+2 p+0", *two, "read z half2 p+0"])

    def test_what_the_same_byte_bore_at_first(self):
        self.both("p", [], ["copy 4 p+0 p+0"])
        self.check((ONE, "end"), "p", [], ["copy 1 p+1 p+0"])
        self.both("p", [], ["copy 1 p+0 p+0", "copy 1 p+7 p+7"])
        self.check((ONE, "end"), "p", ["copy 1 p+2 p+0"], ["copy 1 p+2 p+1"])
        self.both("p", ["copy 1 p+2 p+0", "copy 1 p+3 p+2"], ["copy 1 p+3 p+0", "copy 1 p+2 p+3"])

    def test_places(self):
        copied, moved = ["copy 2 a+0 p+0"], ["read x half2 p+0", "write half2 a+0 x"]
        self.check(None, "a=half2 p", moved, copied)
        # A copy may take up half of a place, but a read may not.
        self.check(((None, ("a", -1)), "unlawful"), "a=half2 p", copied, moved)
        self.check((APART, "unlawful"), "a=half2 p", [], ["copy 2 a+0 p+0"])
        self.check((APART, "unlawful"), "a=half2 p", [], ["blank 1 a+0"])
        self.check(None, "a=half2 p", ["write pair2 a+0 1"], ["write c1 p+0 1"])

    def test_two_places_of_unlike_kinds(self):
        head = "a=half2 b=pair2 p"
        self.both(head, ["write half2 p+0 1", "copy 2 p+4 p+0"], ["write half2 p+0 1", "write half2 p+4 1"])
        whole, halves = ["copy 2 p+4 p+0"], ["copy 1 p+4 p+0", "copy 1 p+5 p+1"]
        self.check(((None, None, ("a", -4)), "unlawful"), head, whole, halves)
        self.check(((None, None, ("b", -4)), "unlawful"), head, ["write pair2 p+0 1", *whole],
                   ["write pair2 p+0 1", *halves])
        self.check(None, head, halves, whole)
        self.check((APART + (None,), "end"), head, ["write half2 a+0 1", "write pair2 b+0 2"], ["write half2 a+0 1"])
        self.check(None, head, ["write half2 a+0 1", "write pair2 b+0 2"], ["write pair2 b+0 2", "write half2 a+0 1"])

    def test_the_words_in_their_order(self):
        lines = ["read x c1 p+0", "tell x", "write c1 p+0 1"]
        self.check((ONE, "unlawful"), "p", lines, ["read y c1 p+1", "tell y", "write c1 p+0 2"])
        self.check((ONE, "told"), "p", lines, ["read y c1 p+0", "write c1 p+0 2"])
        self.check((ONE, "end"), "p", lines, ["read y c1 p+0", "tell y", "write c1 p+0 2"])

    def test_the_least_laying(self):
        lines, others = ["write c1 p+0 1", "read x c1 q+3"], ["read x c1 q+3", "write c1 p+0 1"]
        self.check((at(-3), "unlawful"), "p q", lines, others)
        self.check((at(-3), "end"), "p q", ["write c1 p+0 1", "write c1 q+3 2"], ["write c1 q+3 2", "write c1 p+0 1"])

    def test_the_layings_are_those_of_both(self):
        lines = ["write c1 p+0 1", "blank 1 p+7"]
        kept = ["copy 1 p+7 q+2", "write c1 p+0 1", "copy 1 q+2 p+7", "blank 1 p+7"]
        self.assertEqual(layings(text_of("p q", *lines)), [APART])
        self.check((at(-2), "end"), "p q", lines, kept)
        self.check((at(-2), "end"), "p q", kept, lines)
        self.check((at(-1), "end"), "p q", ["read x c1 q+2", "write half2 p+0 1"],
                   ["read x c1 q+2", "write half2 p+0 1", "write c1 q+2 x"])

    def test_places_and_pointers(self):
        text = text_of("a=c1 p")
        for part, other in [
                ("places", Text((), ("p",))), ("places", text_of("a=d1 p")), ("places", text_of("b=c1 p")),
                ("places", text_of("a=c1 b=c1 p")), ("places", text_of("a=d1 q")), ("places", text_of("a p")),
                ("pointers", text_of("a=c1 q")), ("pointers", text_of("a=c1")), ("pointers", text_of("a=c1 p q"))]:
            for one, two in (text, other), (other, text):
                with self.assertRaises(BadText) as caught:
                    stands(one, two)
                self.assertEqual((caught.exception.part, caught.exception.index), (part, None))
        with self.assertRaises(BadText) as caught:
            stands(text_of("p q"), text_of("q p"))
        self.assertEqual(caught.exception.part, "pointers")

    def test_without_a_lawful_laying(self):
        torn = ["write c1 p+0 1", "read x d1 p+0"]
        for others in [[], ["blank 8 p+0"], torn, ["read x int4 p+0", "tell x"]]:
            self.check(None, "p", torn, others)
        self.check((ONE, "unlawful"), "p", [], torn)

    def test_twelve_steps_each(self):
        lines = [f"write c1 p+{k} {k}" for k in range(6)] * 2
        self.both("p", lines, lines[::-1])
        self.both("p", lines, lines[:6])

    def test_the_texts_do_not_change(self):
        text, other = text_of("p q", "read x c1 p+0"), text_of("p q", "read y c1 p+0", "tell y")
        before = [(one.places, one.pointers, one.steps) for one in (text, other)]
        stands(text, other)
        self.assertEqual([(one.places, one.pointers, one.steps) for one in (text, other)], before)


class Forwarded(unittest.TestCase):
    def check(self, wanted, head, *lines):
        text, other = text_of(head, *lines), text_of(head, *wanted)
        self.assertEqual(forwarded(text), other)
        self.assertIs(type(forwarded(text)), Text)
        self.assertIsNone(stands(text, other))
        self.assertIsNone(stands(other, text))

    def test_to_an_integer(self):
        self.check(["write c1 p+0 7", "read x c1 p+0", "write c1 p+1 7"], "p",
                   "write c1 p+0 7", "read x c1 p+0", "write c1 p+1 x")

    def test_a_tell_is_left_as_it_is(self):
        lines = ["write c1 p+0 7", "read x c1 p+0", "tell x"]
        self.check(lines, "p", *lines)
        self.check([*lines[:2], "write c1 p+1 7", "read y c1 p+1", "tell y"], "p",
                   *lines[:2], "write c1 p+1 x", "read y c1 p+1", "tell y")

    def test_to_a_read_that_finds_what_came_in(self):
        lines = ["read x c1 p+0", "write c1 p+1 x", "read y c1 p+1"]
        self.check([*lines, "tell x"], "p", *lines, "tell y")
        self.check([*lines, "write c1 p+2 x", "tell x"], "p", *lines, "write c1 p+2 y", "tell y")

    def test_along_several_writes(self):
        begin = ["write c1 p+0 5", "read x c1 p+0"]
        chain = ["write c1 p+1 {}", "read y c1 p+1", "write c1 p+2 {}", "read z c1 p+2", "write d1 p+3 {}"]
        self.check([*begin, *[line.format(5) for line in chain]], "p",
                   *begin, *[line.format(name) for line, name in zip(chain, "x_y_z")])
        self.check([begin[1], *[line.format("x") for line in chain], "tell x"], "p",
                   begin[1], *[line.format(name) for line, name in zip(chain, "x_y_z")], "tell z")

    def test_reads_that_find_it_only_sometimes(self):
        lines = ["write c1 p+0 7", "read x c1 q+0", "write c1 q+4 x", "tell x"]
        self.check(lines, "p q", *lines)
        lines = ["write c1 p+0 7", "write c1 q+0 8", "read x c1 p+0", "write c1 q+4 x", "tell x"]
        self.check(lines, "p q", *lines)
        lines = ["read x c1 p+0", "write c1 p+4 x", "tell x"]
        self.check(lines, "p", *lines)

    def test_on_the_way_to_a_read_that_finds_it_only_sometimes(self):
        lines = ["write c1 p+0 7", "read x c1 q+0", "write c1 q+0 x", "read y c1 q+0"]
        self.check([*lines, "tell x", "write d1 p+1 x"], "p q", *lines, "tell y", "write d1 p+1 y")

    def test_one_value_from_two_writes(self):
        lines = ["write c1 p+0 7", "write c1 q+0 7", "read x c1 p+0", "write c1 q+4 x"]
        self.check(lines, "p q", *lines)

    def test_settled_by_another_step(self):
        lines = ["write c1 p+0 7", "read x c1 q+0", "write d1 p+0 8", "read y d1 q+0"]
        self.check([*lines, "write c1 p+3 7", "write c1 p+4 8"], "p q", *lines, "write c1 p+3 x", "write c1 p+4 y")

    def test_through_copies(self):
        lines = ["write half2 p+0 7", "copy 2 p+4 p+0", "read x half2 p+4"]
        self.check([*lines, "write half2 p+6 7"], "p", *lines, "write half2 p+6 x")
        self.check(["copy 2 a+0 p+2", "read x half2 a+0", "write half2 p+0 x"], "a=half2 p",
                   "copy 2 a+0 p+2", "read x half2 a+0", "write half2 p+0 x")

    def test_without_a_lawful_laying(self):
        lines = ["write c1 p+0 7", "read x c1 p+0", "read y d1 p+0", "write c1 p+0 x", "tell x"]
        self.check(lines, "p", *lines)

    def test_edges(self):
        for text in Text(), text_of("a=c1 p"), text_of("p", "read x c1 p+0", "tell x"), text_of("p", "blank 2 p+0"):
            self.assertEqual(forwarded(text), text)
            self.assertEqual(forwarded(text=text), text)

    def test_the_text_does_not_change(self):
        text = text_of("p", "write c1 p+0 7", "read x c1 p+0", "write c1 p+1 x")
        before = (text.places, text.pointers, text.steps)
        forwarded(text)
        self.assertEqual((text.places, text.pointers, text.steps), before)


class Trials(unittest.TestCase):
    FORMS = [
        {"places": 0, "pointers": 1, "steps": 5, "width": 3, "kinds": ("c1", "half2")},
        {"places": 0, "pointers": 2, "steps": 5, "width": 2, "kinds": ("c1", "half2")},
        {"places": 1, "pointers": 1, "steps": 5, "width": 3, "kinds": ("half2", "c1")},
        {"places": 0, "pointers": 1, "steps": 7, "width": 4, "kinds": ("half2",),
         "words": ("read", "copy", "copy", "tell", "read", "write")},
    ]

    def others(self, text, dice):
        """Texts with the same places and pointers that differ a little."""
        steps = text.steps
        many = len(steps)
        for _ in range(4):
            k, m = dice.randrange(many), dice.randrange(many)
            yield steps[:k] + steps[k + 1:]
            yield steps[:k + 1] + steps[k:]
            swapped = list(steps)
            swapped[k], swapped[m] = swapped[m], swapped[k]
            yield tuple(swapped)
            name = dice.choice(text.names())
            for step in [("read", "extra", "half2", name, 0), ("write", "c1", name, 0, 7),
                         ("copy", 2, name, 0, name, 1), ("copy", 1, name, 1, name, 1), ("blank", 1, name, 0), ("read", "extra", "c1", name, 0)]:
                yield steps[:k] + (step,) + steps[k:]
            if steps[k][0] == "copy":
                kind = f"half{steps[k][1]}"
                if steps[k][1] <= 2:
                    yield (steps[:k] + (("read", "extra", kind, *steps[k][4:]),
                                        ("write", kind, *steps[k][2:4], "extra")) + steps[k + 1:])

    def test_against_all_callers(self):
        words = {}
        for form in self.FORMS:
            for text in trying.lawful_texts(20, **form):
                dice = random.Random(len(text))
                for steps in self.others(text, dice):
                    try:
                        other = Text(text.places, text.pointers, steps)
                    except BadText:
                        continue
                    found = stands(text, other)
                    if dice.random() < 0.3:
                        self.assertEqual(found, trying.stands(text, other), (text.steps, steps))
                        word = found and found[1]
                        words[word] = words.get(word, 0) + 1
        self.assertEqual(set(words), {None, "unlawful", "told", "end"})
        self.assertGreater(min(words.values()), 15, words)

    def test_turned_texts_stand_for_the_text(self):
        for form in self.FORMS:
            for text in trying.lawful_texts(20, **form):
                right = list(orders(text))
                for order in random.Random(len(right)).sample(right, min(3, len(right))):
                    self.assertIsNone(stands(text, turned(text, order)), (text.steps, order))

    def test_forwarded(self):
        some = 0
        for form in self.FORMS:
            moves = {"steps": 9, "kinds": ("c1",), "words": ("read", "write", "write", "read", "tell", "copy")}
            for text in trying.lawful_texts(80, **{**form, **moves}):
                other = forwarded(text)
                some += other != text
                self.assertIsNone(stands(text, other), text.steps)
                self.assertIsNone(stands(other, text), text.steps)
                self.assertEqual(layings(text, lawful=True), layings(other, lawful=True))
                self.assertEqual(finds(text), finds(other))
        self.assertGreater(some, 20)


if __name__ == "__main__":
    unittest.main()
