"""What nobody sees: point [20], and what point [3] says of it."""

import itertools
import random
import unittest

import oracle
import trying
from lastkind.errors import NoOrder
from lastkind.layings import layings
from lastkind.orders import orders, turned_pair
from lastkind.pairs import meets, needs
from lastkind.standing import stands
from lastkind.texts import Text
from lastkind.unseen import dead, drifts, shortened, tied
from values import OTHERS, text_of

TORN = ["write c1 p+0 1", "read x d1 p+0"]


class Tied(unittest.TestCase):
    def check(self, wanted, head, *lines):
        text = text_of(head, *lines)
        found = tied(text)
        self.assertEqual(found, wanted, lines)
        self.assertEqual(found, trying.tied(text))
        self.assertTrue(all(type(pair) is tuple for pair in found))
        self.assertLessEqual(set(found), {row[:2] for row in meets(text)})

    def test_reads_and_writes_in_either_order(self):
        self.check([(0, 1)], "p", "write c1 p+0 1", "read x c1 p+0")
        self.check([(0, 1)], "p", "read x c1 p+0", "write c1 p+0 1")
        self.check([], "p", "read x c1 p+0", "read y c1 p+0")

    def test_reads_copies_and_blanks(self):
        self.check([(0, 1)], "p", "read x c1 p+0", "copy 1 p+0 p+1")
        self.check([], "p", "read x c1 p+0", "copy 1 p+1 p+0")
        self.check([(0, 1)], "p", "copy 1 p+0 p+1", "read x c1 p+0")
        self.check([(0, 1)], "p", "read x c1 p+0", "blank 1 p+0")
        self.check([], "p", "blank 1 p+0", "read x c1 p+1")

    def test_two_writes_that_only_the_end_sees(self):
        for one, other in itertools.product(["write c1 p+0 1", "copy 1 p+0 p+1", "blank 1 p+0"], repeat=2):
            self.check([(0, 1)], "p", one, other)

    def test_writes_that_no_one_sees_between(self):
        w = "write c1 p+0 1"
        # The first two may change places: nobody sees them. The last one stays behind both.
        self.check([(0, 2), (1, 2)], "p", w, "blank 1 p+0", w)
        self.check([(0, 3), (1, 3), (2, 3)], "p", w, w, w, w)

    def test_writes_that_a_read_sees_between(self):
        w, r = "write c1 p+0 1", "read x c1 p+0"
        self.check([(0, 1), (1, 2)], "p", w, r, w)
        self.check([(0, 1), (0, 2), (1, 2), (2, 3)], "p", w, w, r, w)
        # The write behind the read is written again: it stands behind the read, and in front of the last one.
        self.check([(0, 1), (1, 2), (1, 3), (2, 3)], "p", w, r, w, w)
        self.check([(0, 1), (0, 2), (1, 2), (2, 3), (2, 4), (3, 4)], "p", w, w, r, w, w)

    def test_only_at_some_of_the_bytes(self):
        self.check([(0, 1), (0, 2)], "p", "write half2 p+0 1", "write c1 p+0 1", "write c1 p+1 1")
        self.check([(0, 2), (1, 2)], "p", "write half2 p+0 1", "write half2 p+1 1", "blank 2 p+0")
        self.check([(0, 1), (1, 2)], "p", "write half2 p+0 1", "write half2 p+1 1", "blank 2 p+2")
        self.check([(0, 2), (1, 2)], "p", "write half2 p+0 1", "write half2 p+0 2", "blank 2 p+0")

    def test_under_some_laying(self):
        self.check([(0, 1)], "p q", "write c1 p+0 1", "blank 1 q+5")
        self.check([(0, 2), (1, 2)], "p q", "write c1 p+0 1", "write c1 q+0 1", "write c1 p+0 1")
        self.check([(0, 2), (1, 2)], "p", "write c1 p+0 1", "write c1 p+0 1", "write c1 p+0 1")

    def test_a_copy_that_is_seen(self):
        self.check([(0, 1)], "p", "write c1 p+0 1", "copy 1 p+1 p+0")
        self.check([(0, 1)], "p", "copy 1 p+1 p+0", "write c1 p+0 1")
        self.check([(0, 1), (1, 2), (2, 3)], "p", "write c1 p+0 1", "copy 1 p+1 p+0", "read x c1 p+1", "blank 1 p+1")

    def test_a_copy_that_is_not_seen(self):
        # What it lays is written again: so nobody sees what it took up.
        self.check([(1, 2)], "p", "write c1 p+0 1", "copy 1 p+1 p+0", "blank 1 p+1")
        self.check([(0, 2), (1, 3)], "p", "write c1 p+0 1", "copy 1 p+1 p+0", "blank 1 p+0", "blank 1 p+1")
        self.check([(0, 1)], "p", "copy 2 p+2 p+0", "blank 2 p+2", "write c1 p+0 1")

    def test_a_copy_of_which_one_byte_is_seen(self):
        lines = ["write c1 p+0 1", "write c1 p+1 1", "copy 2 p+2 p+0"]
        self.check([(0, 2), (1, 2)], "p", *lines)
        self.check([(1, 2), (2, 3)], "p", *lines, "blank 1 p+2")
        self.check([(0, 2), (2, 3)], "p", *lines, "blank 1 p+3")
        self.check([(2, 3)], "p", *lines, "blank 2 p+2")

    def test_a_copy_that_is_seen_through_a_later_copy(self):
        lines = ["write c1 p+0 1", "copy 1 p+1 p+0", "copy 1 p+2 p+1"]
        self.check([(0, 1), (1, 2), (2, 3)], "p", *lines, "blank 1 p+1")
        # Neither copy is seen.
        self.check([(1, 3), (2, 4)], "p", *lines, "blank 1 p+1", "blank 1 p+2")
        # Only the first one is.
        self.check([(0, 1), (1, 3), (2, 4)], "p", *lines, "read x c1 p+1", "blank 1 p+2")

    def test_a_copy_onto_itself(self):
        self.check([(0, 1)], "p", "write c1 p+0 1", "copy 1 p+0 p+0")
        self.check([(0, 1), (0, 2), (1, 2)], "p", "write c1 p+0 1", "copy 1 p+0 p+0", "copy 1 p+0 p+0")
        self.check([(0, 2), (1, 2)], "p", "write c1 p+0 1", "copy 1 p+0 p+0", "blank 1 p+0")
        # It sees the byte that the next step writes, and that step sees what it laid.
        self.check([(0, 1)], "p", "copy 2 p+1 p+0", "copy 1 p+0 p+1")

    def test_a_copy_onto_a_place(self):
        # It sees what it takes up, although nobody sees what it lays.
        self.check([(0, 1), (1, 2)], "a=c1 p", "write c1 p+0 1", "copy 1 a+0 p+0", "write c1 a+0 1")

    def test_two_places_of_unlike_kinds(self):
        head, lines = "a=half2 b=c1 p", ["write half2 p+0 1", "copy 2 p+2 p+0", "write half2 p+2 1"]
        # Under the least laying the copy is not seen; where p + 2 is the place a, it sees what it takes up.
        self.check([(0, 1), (1, 2)], head, *lines)
        self.check([(1, 2)], "b=c1 p", *lines)
        self.check([(1, 2)], "a=pair2 b=c1 p", *lines)
        self.check([(0, 1), (1, 2)], "a=pair2 b=half2 p", *lines)
        self.check([(0, 2), (1, 2)], "a=half2 b=c1 p", "write c1 b+0 1", "write c1 b+0 2", "write c1 b+0 3",
                   "write half2 a+0 4")

    def test_edges(self):
        self.check([], "")
        self.check([], "p", *TORN, "blank 1 p+0")
        self.check([], "p", "read x c1 p+0", "tell x", "tell x")

    def test_new_lists(self):
        text = text_of("p", "blank 1 p+0", "blank 1 p+0")
        tied(text).clear()
        self.assertEqual(tied(text=text), [(0, 1)])
        self.assertIs(type(tied(text)), list)


class Drifts(unittest.TestCase):
    # Nobody sees which of the first two writes lies there before the third one.
    TEXT = text_of("p", "write c1 p+0 1", "blank 1 p+0", "write c1 p+0 2", "read x c1 p+0", "tell x", "tell x")

    def check(self, wanted, order, text=TEXT):
        self.assertIs(drifts(text, order), wanted, order)
        self.assertIs(drifts(text=text, order=order), wanted, order)

    def test_orders_that_keep_all_pairs(self):
        self.check(True, (0, 1, 2, 3, 4, 5))
        self.check(True, (1, 0, 2, 3, 4, 5))
        self.assertEqual(turned_pair(self.TEXT, (1, 0, 2, 3, 4, 5)), (0, 1))

    def test_orders_that_turn_one_around(self):
        for order in [(0, 2, 1, 3, 4, 5), (0, 1, 3, 2, 4, 5), (0, 1, 2, 4, 3, 5), (0, 1, 2, 3, 5, 4),
                      (2, 0, 1, 3, 4, 5), (5, 4, 3, 2, 1, 0)]:
            self.check(False, order)

    def test_the_empty_text(self):
        self.check(True, (), Text())

    def test_without_a_lawful_laying(self):
        text = text_of("p", *TORN, "blank 1 p+0", "tell x")
        for order in itertools.permutations(range(4)):
            self.check(order.index(1) < order.index(3), order, text)

    def test_right_orders_drift(self):
        for seed in range(30):
            text = oracle.made_text(seed, places=1, pointers=2, steps=6, kinds=("half2", "c1"))
            right = list(orders(text))
            for order in random.Random(seed).sample(right, min(4, len(right))):
                self.check(True, order, text)

    def test_no_order(self):
        for order in OTHERS + [(0, 1, 2, 3, 4), (0, 1, 2, 3, 4, 4), (0, 1, 2, 3, 4, 6), (0, 1, 2, 3, 4, 5, 6),
                               (False, True, 2, 3, 4, 5), (-1, 0, 1, 2, 3, 4), [0, 1, 2, 3, 4, 5], "012345", 5,
                               (0, 2, 1, 3, 4), (0, 1, 2, 3, 4, (5,)), (0, 1, 2, 3, 4, []), self.TEXT]:
            with self.assertRaises(NoOrder) as caught:
                drifts(self.TEXT, order)
            self.assertIs(caught.exception.order, order)


class Dead(unittest.TestCase):
    def check(self, wanted, short, head, *lines):
        """The dead steps, and the lines of the shortened text."""
        text = text_of(head, *lines)
        self.assertEqual(dead(text), wanted, lines)
        self.assertEqual(dead(text), trying.dead(text))
        self.assertEqual(shortened(text), text_of(head, *[lines[k] for k in short]), lines)
        self.assertIs(type(shortened(text)), Text)
        self.assertIsNone(stands(text, shortened(text)))

    def test_each_word(self):
        self.check([0], [1], "p", "write c1 p+0 1", "blank 1 p+0")
        self.check([0], [1], "p", "copy 1 p+0 p+1", "blank 1 p+0")
        self.check([0], [1], "p", "blank 1 p+0", "write c1 p+0 1")
        self.check([0], [1], "p", "blank 1 p+0", "copy 1 p+0 p+1")

    def test_reads_and_tells_are_not_dead(self):
        self.check([], [0, 1], "p", "read x c1 p+0", "tell x")
        self.check([], [0, 1], "p", "read x c1 p+0", "read y c1 p+0")

    def test_what_is_seen(self):
        self.check([], [0], "p", "write c1 p+0 1")
        self.check([], [0, 1, 2], "p", "write c1 p+0 1", "read x c1 p+0", "write c1 p+0 1")
        self.check([], [0, 1, 2], "p", "write c1 p+0 1", "copy 1 p+1 p+0", "write c1 p+0 1")
        self.check([], [0, 1], "p", "write half2 p+0 1", "write c1 p+1 1")

    def test_each_byte_counts(self):
        self.check([0], [1, 2], "p", "write half2 p+0 1", "write c1 p+1 1", "write c1 p+0 1")
        self.check([0], [1], "p", "write half2 p+2 1", "blank 4 p+1")
        self.check([], [0, 1], "p", "blank 4 p+1", "write half2 p+2 1")

    def test_layings(self):
        self.check([], [0, 1], "p q", "write c1 p+0 1", "write c1 q+0 1")
        self.check([0], [1, 2], "p q", "write c1 p+0 1", "write d1 q+0 2", "write c1 p+0 3")
        # A read that finds the first write under one laying keeps it.
        self.check([], [0, 1, 2], "p q", "write c1 p+0 1", "read x c1 q+0", "write c1 p+0 3")

    def test_again_and_again(self):
        lines = ["write c1 p+0 1", "copy 1 p+1 p+0", "copy 1 p+2 p+1", "blank 3 p+0"]
        self.check([0, 1, 2], [3], "p", *lines)
        # The first write is seen as long as the copy onto the place is there, whom nobody sees.
        lines = ["write half2 p+2 1", "copy 2 a+0 p+2", "write half2 a+0 1", "blank 2 p+2"]
        self.check([1], [2, 3], "a=half2 p", *lines)

    def test_the_last_one_first(self):
        # No laying is lawful, so each write is dead; with the last one left out some may be lawful.
        self.check([0, 1], [0, 2], "p", "write c1 p+0 1", "blank 1 p+0", "read x c1 p+0")
        self.check([0, 1], [2], "p", "write d1 p+0 1", "blank 1 p+0", "read x c1 p+0")
        self.check([0, 1, 2], [1, 3], "p", "blank 1 p+0", "write c1 p+0 1", "write d1 p+0 1", "read x c1 p+0")
        self.check([0, 1], [0, 2], "p q", "write c1 p+0 1", "write c1 q+0 2", "read x d1 q+0")

    def test_without_a_lawful_laying(self):
        self.check([0, 2], [1], "p", *TORN, "blank 1 p+0")
        self.check([0], [1, 2], "p", *TORN, "tell x")
        self.check([], [0, 1], "p", "read x c1 p+0", "read y d1 p+0")
        self.check([2, 3], [0, 1], "p q", "read x c1 p+0", "read y d1 p+0", "copy 1 q+0 p+0", "blank 1 q+0")

    def test_a_copy_onto_a_place(self):
        self.check([], [0, 1, 2], "a=half2 b=c1 p", "write half2 p+0 1", "copy 2 a+0 p+0", "blank 2 p+0")
        self.check([1], [2, 3], "a=half2 b=c1 p",
                   "write half2 p+0 1", "copy 2 a+0 p+0", "write half2 a+0 2", "blank 2 p+0")

    def test_two_places_of_unlike_kinds(self):
        lines = ["write half2 p+0 1", "copy 2 p+2 p+0", "write half2 p+2 1", "blank 2 p+0"]
        self.check([0, 1], [2, 3], "b=c1 p", *lines)
        self.check([1], [2, 3], "a=half2 b=c1 p", *lines)
        self.check([0, 1], [2, 3], "a=pair2 b=c1 p", *lines)
        self.check([1], [2, 3], "a=pair2 b=half2 p", *lines)

    def test_edges(self):
        self.check([], [], "")
        self.check([], [], "a=c1 p q")

    def test_new_lists(self):
        text = text_of("p", "blank 1 p+0", "blank 1 p+0")
        dead(text).clear()
        self.assertEqual(dead(text=text), [0])
        self.assertIs(type(dead(text)), list)
        self.assertEqual(shortened(text=text), text_of("p", "blank 1 p+0"))

    def test_the_text_does_not_change(self):
        text = text_of("a=c1 p", "blank 1 p+0", "blank 1 p+0")
        before = (text.places, text.pointers, text.steps)
        for ask in tied, dead, shortened:
            ask(text)
        self.assertEqual((text.places, text.pointers, text.steps), before)


class Trials(unittest.TestCase):
    COPIES = ("copy", "copy", "copy", "write", "read", "blank")
    FORMS = [
        {"places": 0, "pointers": 1, "steps": 5, "width": 3, "kinds": ("c1", "half2")},
        {"places": 0, "pointers": 1, "steps": 5, "width": 4, "kinds": ("c1", "half2"), "words": COPIES},
        {"places": 0, "pointers": 2, "steps": 5, "width": 2, "kinds": ("c1",)},
        {"places": 1, "pointers": 1, "steps": 5, "width": 3, "kinds": ("half2", "c1"), "words": COPIES},
        {"places": 2, "pointers": 1, "steps": 5, "width": 2, "kinds": ("half2", "c1"), "words": COPIES},
        {"places": 2, "pointers": 2, "steps": 4, "width": 2, "kinds": ("half2", "pair2", "c1")},
    ]

    def test_ties_and_dead_steps_byte_by_byte(self):
        ties, ends = 0, 0
        for form in self.FORMS:
            for text in trying.lawful_texts(60, **{**form, "steps": 7}):
                self.assertEqual(tied(text), trying.tied(text), text.steps)
                self.assertEqual(dead(text), trying.dead(text), text.steps)
                self.assertEqual(shortened(text), trying.shortened(text), text.steps)
                ties += len(tied(text))
                ends += len(dead(text))
        self.assertGreater(ties, 700)
        self.assertGreater(ends, 100)

    def test_each_tied_pair_meets(self):
        fewer = 0
        for form in self.FORMS:
            for text in trying.lawful_texts(40, **{**form, "steps": 7}):
                met = {row[:2] for row in meets(text)}
                self.assertLessEqual(set(tied(text)), met)
                fewer += set(tied(text)) < met
        self.assertGreater(fewer, 30)

    def test_the_shortened_text_stands_for_the_text(self):
        shorter = 0
        for form in self.FORMS:
            for text in trying.lawful_texts(40, **{**form, "steps": 7}):
                short = shortened(text)
                self.assertEqual(dead(short), [])
                self.assertIsNone(stands(text, short), text.steps)
                for k in dead(text):
                    one = Text(text.places, text.pointers, text.steps[:k] + text.steps[k + 1:])
                    self.assertIsNone(stands(text, one), (text.steps, k))
                shorter += short != text
        self.assertGreater(shorter, 50)

    def test_without_a_lawful_laying(self):
        seen = 0
        for form in self.FORMS:
            for seed in range(60):
                text = oracle.made_text(seed, **form)
                if layings(text, lawful=True) == []:
                    seen += 1
                    self.assertEqual(tied(text), [])
                    self.assertEqual(dead(text), [k for k, step in enumerate(text.steps)
                                                  if step[0] not in ("read", "tell")])
                    self.assertEqual(shortened(text), trying.shortened(text))
        self.assertGreater(seen, 10)

    def test_the_orders_that_are_reached(self):
        counts, unlike = set(), 0
        for form in self.FORMS:
            for text in trying.lawful_texts(14, **form):
                every = list(itertools.permutations(range(len(text))))
                kept = set(needs(text)) | set(tied(text))
                wanted = {order for order in every if all(order.index(i) < order.index(j) for i, j in kept)}
                self.assertEqual(trying.reached(text, False), wanted, text.steps)
                self.assertEqual(trying.reached(text, True), wanted, text.steps)
                for order in random.Random(len(wanted)).sample(every, 6):
                    self.assertIs(drifts(text, order), order in wanted)
                for order in sorted(wanted)[:3]:
                    self.assertIs(drifts(text, order), True)
                counts.add(len(wanted))
                unlike += any(turned_pair(text, order) for order in sorted(wanted)[:20])
        self.assertGreater(len(counts), 10)
        self.assertGreater(unlike, 10)


if __name__ == "__main__":
    unittest.main()
