"""Loops: point [21], and what point [3] says of them."""

import random
import time
import unittest

from lastkind.errors import BadLoop, BadText, NoStep
from lastkind.loops import Loop, ahead, apart, lawful_rounds, nearest
from lastkind.runs import Run
from lastkind.texts import Text
from values import OTHERS, text_of

MOST_SECONDS = 60


def loop_of(head, lines, step, standing=()):
    text = text_of(head, *lines)
    return Loop(text.pointers, text.steps, step=step, standing=tuple(standing))


def rows_in(loop, distance, lap):
    """For each step of a round the bytes that it uses, as tuples (row of memory, number)."""
    spots = {}
    for name, begin in zip(loop.pointers, [(0, 0), (1, 0) if distance is None else (0, distance)]):
        spots[name] = (begin[0], begin[1] + (0 if name in loop.standing else lap * loop.step))
    rows = []
    for step in loop.steps:
        kind, name, offset = step[-3:] if step[0] == "read" else step[1:4]
        row, number = spots[name]
        rows.append([(row, number + offset + k) for k in range(int(kind[-1]))])
    return rows


def rounds(loop, distance, most):
    """How many rounds are lawful: all asks are looked at anew after each read."""
    laid, asks = {}, []
    for lap in range(most):
        for index, (step, row) in enumerate(zip(loop.steps, rows_in(loop, distance, lap))):
            kind = step[2] if step[0] == "read" else step[1]
            if step[0] == "write":
                laid.update({byte: (lap, index, kind, k) for k, byte in enumerate(row)})
                continue
            found = [laid.get(byte) for byte in row]
            if found == [None] * len(row):
                asks.append((kind, row))
                if not agree(asks):
                    return lap
            elif found[0] is None or found != [(*found[0][:3], k) for k in range(int(found[0][2][-1]))] \
                    or found[0][2] != kind:
                return lap
    return most


def agree(asks):
    """Whether bytes may bear what is asked of them: one place each, of things of one kind each."""
    places = {}
    return all(places.setdefault(byte, (kind, k)) == (kind, k) for kind, row in asks for k, byte in enumerate(row))


def distances(loop, reach):
    found = [None]
    if len(loop.pointers) == 2:
        found += sorted(range(-reach, reach + 1), key=lambda d: (abs(d), d))
    return found


def meet(loop, i, j, k, distance):
    here, there = rows_in(loop, distance, 0)[i], rows_in(loop, distance, k)[j]
    return "write" in (loop.steps[i][0], loop.steps[j][0]) and bool(set(here) & set(there))


def apart_by_trying(loop, i, j, k):
    for distance in distances(loop, k * loop.step + 20):
        if meet(loop, i, j, k, distance) and rounds(loop, distance, k + 1) == k + 1:
            return (True, distance)
    return (False, None)


def made_loop(seed):
    dice = random.Random(seed)
    pointers = ("p", "q")[:dice.choice((1, 2, 2, 2))]
    kinds = dice.choice((("c1",), ("c1", "d1"), ("half2",), ("half2", "c1"), ("int4", "half2"), ("rgb3", "c1")))
    steps, reads = [], []
    for k in range(dice.randint(1, 4)):
        kind, name = dice.choice(kinds), dice.choice(pointers)
        offset = dice.randint(0, min(8 - int(kind[-1]), dice.choice((0, 2, 7))))
        if dice.random() < 0.5:
            steps.append(("read", f"x{k}", kind, name, offset))
            reads.append(f"x{k}")
        else:
            steps.append(("write", kind, name, offset, dice.choice([1, *reads])))
    standing = tuple(name for name in pointers if dice.random() < 0.35)
    return Loop(pointers, tuple(steps), step=dice.randint(1, 8), standing=standing)


class Made(unittest.TestCase):
    STEPS = (("read", "x", "c1", "p", 0), ("write", "c1", "q", 1, "x"))
    GOOD = {"pointers": ("p", "q"), "steps": STEPS, "step": 1, "standing": ("q",)}
    WRONG = {
        "pointers": [(), ("p", "p"), ("p", "q", "r"), ["p", "q"], "pq", None, ("p", 7), ("P",), ("p", True), ("",), 5],
        "steps": [(), STEPS[:1] * 2, STEPS[1:], list(STEPS), (("blank", 1, "p", 0),), (("copy", 1, "p", 0, "q", 0),),
                  (STEPS[0], ("tell", "x")), (("read", "x", "c1", "r", 0),), (("read", "p", "c1", "p", 0),),
                  (("write", "c1", "p", 8, 1),), (("write", "int4", "p", 5, 1),), (["read", "x", "c1", "p", 0],),
                  (("write", "c1", "p", 0, True),), tuple(("write", "c1", "p", k, 1) for k in range(5)), None, "",
                  (("write", "c1", "p", 0, 10 ** 40),), (("write", "c0", "p", 0, 1),), (None,), 7, ("read",)],
        "step": [0, 9, -1, 10 ** 59, True, False, None, "1", (1,), [1], "", ()],
        "standing": [("r",), ("q", "q"), ["q"], "q", None, ("p", "q", "p"), ("x",), (7,), (None,), (True,), 7, ([],),
                     (("q",),)],
    }
    # Of the other values.
    RIGHT = {"pointers": [("p",)], "steps": [], "step": [], "standing": [(), ("p",)]}
    PARTS = ["pointers", "steps", "step", "standing"]

    def made(self, parts):
        return Loop(parts["pointers"], parts["steps"], step=parts["step"], standing=parts["standing"])

    def refused(self, part, parts):
        with self.assertRaises(BadLoop) as caught:
            self.made(parts)
        self.assertEqual(caught.exception.part, part, parts)

    def test_attributes(self):
        loop = self.made(self.GOOD)
        for part in self.PARTS:
            self.assertEqual(getattr(loop, part), self.GOOD[part])
        self.assertIs(type(loop.step), int)
        self.assertEqual(len(loop), 2)

    def test_by_name_and_without_standing(self):
        loop = Loop(pointers=("p", "q"), steps=self.STEPS, step=8)
        self.assertEqual((loop.pointers, loop.steps, loop.step, loop.standing), (("p", "q"), self.STEPS, 8, ()))
        with self.assertRaises(TypeError):
            Loop(("p", "q"), self.STEPS, 8)
        with self.assertRaises(TypeError):
            Loop(("p", "q"), self.STEPS)

    def test_what_may_be(self):
        write = ("write", "int4", "p", 4, -10 ** 40 + 1)
        for parts in [{"pointers": ("p",), "steps": (write,), "standing": ()},
                      {"pointers": ("p",), "steps": (write,) * 4, "standing": ("p",)},
                      {"standing": ("p", "q")}, {"standing": ("q", "p")}, {"standing": ()},
                      {"pointers": ("q", "p")}, *[{"step": step} for step in range(1, 9)]]:
            loop = self.made({**self.GOOD, **parts})
            self.assertEqual(len(loop), len(loop.steps))

    def test_each_part_wrong(self):
        for part in self.PARTS:
            for thing in self.WRONG[part] + OTHERS:
                if thing not in self.RIGHT[part]:
                    self.refused(part, {**self.GOOD, part: thing})

    def test_two_parts_wrong(self):
        for k, part in enumerate(self.PARTS):
            for other in self.PARTS[k + 1:]:
                for thing, another in zip(self.WRONG[part], self.WRONG[other]):
                    self.refused(part, {**self.GOOD, part: thing, other: another})

    # Values that are no steps, tuples that begin as steps do among them.
    NO_STEPS = OTHERS + [0, 9, "", "p", (("p",),), ("read",), ("read", "x"), ("write",), ("blank", 1),
                         list(STEPS[0]), STEPS]

    def test_a_wrong_step_with_others_around_it(self):
        write = ("write", "i1", "rab1", 0, 3)
        self.refused("steps", {"pointers": ("rab1",), "steps": (write, True, write, True), "step": 8, "standing": ()})
        read, use = self.STEPS
        loop = self.made(self.GOOD)
        for odd in [*self.NO_STEPS, loop, Text((), ("p",), (read,)), ("tell", "x"), ("blank", 1, "p", 0)]:
            for steps in [(odd, odd), (odd, read), (read, odd), (odd, read, use), (read, odd, use), (read, use, odd),
                          (odd, read, use, use), (read, odd, use, use), (read, use, odd, use), (read, use, use, odd),
                          (odd, read, odd, use), (read, odd, use, odd), (odd, odd, odd, odd), (odd,) * 5]:
                self.refused("steps", {**self.GOOD, "steps": steps})
                self.refused("steps", {**self.GOOD, "steps": steps, "step": 0, "standing": None})

    def test_a_value_of_a_read_that_is_none(self):
        # What comes behind a wrong step does not make up for it, nor does the wrong step give a name.
        read, use = self.STEPS
        for wrong in [("read", "x"), ("read", "x", "c1", "r", 0), ("read", "x", "c1", "p", 8),
                      ("read", "x", "c0", "p", 0)]:
            for steps in [(wrong, use), (wrong, read, use), (read, wrong, use), (wrong, use, read)]:
                self.refused("steps", {**self.GOOD, "steps": steps})

    def test_a_wrong_name_with_others_around_it(self):
        loop = self.made(self.GOOD)
        for odd in [thing for thing in self.NO_STEPS if thing != "p"] + [loop, "P", "x y", "abcdefghi"]:
            for names in [(odd, "p"), ("p", odd), (odd, odd), (odd, "p", "q"), ("p", odd, "q")]:
                self.refused("pointers", {**self.GOOD, "pointers": names})
                self.refused("pointers", {**self.GOOD, "pointers": names, "steps": (odd, odd), "standing": names})
                self.refused("standing", {**self.GOOD, "standing": names})

    def test_steps_are_taken_as_texts_take_them(self):
        read, use = self.STEPS
        rows = [read, use, ("read", "y", "half2", "q", 6), ("write", "half2", "p", 7, 1), ("write", "c1", "p", 0, "y"),
                ("tell", "x"), ("read", "x"), None]
        taken = 0
        for steps in [(one, two, three) for one in rows for two in rows for three in rows]:
            try:
                Text((), ("p", "q"), steps)
                good = all(step[0] in ("read", "write") for step in steps)
            except BadText:
                good = False
            if good:
                self.assertEqual(self.made({**self.GOOD, "steps": steps}).steps, steps)
                taken += 1
            else:
                self.refused("steps", {**self.GOOD, "steps": steps})
        self.assertEqual(taken, 8)

    def test_steps_of_another_pointer(self):
        self.refused("steps", {**self.GOOD, "pointers": ("p",)})
        self.refused("pointers", {**self.GOOD, "pointers": ("p", "x", "q")})
        self.refused("steps", {**self.GOOD, "pointers": ("p", "x")})


class Rounds(unittest.TestCase):
    def check(self, wanted, loop, distance=None, most=40):
        self.assertEqual(lawful_rounds(loop, distance, most), wanted)
        self.assertEqual(lawful_rounds(loop=loop, distance=distance, most=most), wanted)
        for less in range(0, most + 1, 7):
            self.assertEqual(lawful_rounds(loop, distance, less), min(less, wanted))

    def test_all_rounds(self):
        self.check(40, loop_of("p", ["read x int4 p+0", "write int4 p+4 x"], 8))
        self.check(40, loop_of("p", ["read x int4 p+0"], 4))
        self.check(40, loop_of("p", ["write int4 p+0 1"], 1))

    def test_none(self):
        self.check(0, loop_of("p", ["write int4 p+0 1", "read x half2 p+0"], 8))
        self.check(0, loop_of("p", ["read x int4 p+0", "read y int4 p+1"], 8))

    def test_some(self):
        # A thing of four bytes is asked for, and then one that begins in it.
        for step in range(1, 9):
            self.check(1 if step < 4 else 40, loop_of("p", ["read x int4 p+0"], step))
        self.check(1, loop_of("p", ["read x half2 p+1", "write c1 p+0 1"], 1))
        self.check(40, loop_of("p", ["read x half2 p+1", "write c1 p+0 1"], 3))
        self.check(40, loop_of("p", ["read x half2 p+0", "write half2 p+2 x"], 2))
        self.check(1, loop_of("p", ["read x half2 p+0", "write half2 p+2 x"], 1))

    def test_the_distance(self):
        loop = loop_of("p q", ["read x c1 p+0", "write d1 q+0 1"], 1)
        # The first pointer comes where the second one wrote another kind.
        self.check(40, loop)
        self.check(40, loop, 0)
        self.check(40, loop, -1)
        for far in range(1, 40):
            self.check(far, loop, far)
        for far in [40, 41, 327, 328, -10 ** 39, 10 ** 40 - 1, -10 ** 40 + 1]:
            self.check(40, loop, far)

    def test_standing(self):
        lines = ["read x c1 p+0", "write d1 q+0 1"]
        for far in range(40):
            # The first pointer moves to where the second one stands and writes.
            self.check(far or 40, loop_of("p q", lines, 1, "q"), far)
        self.check(40, loop_of("p q", lines, 1, "q"), -1)
        # Both stand: what was read first is of another kind in the next round.
        self.check(1, loop_of("p q", lines, 1, "pq"), 0)
        self.check(40, loop_of("p q", lines, 1, "pq"), 1)
        self.check(1, loop_of("p q", lines, 1, "p"), 0)
        for far in range(1, 40):
            self.check(far + 1, loop_of("p q", lines, 1, "p"), -far)
        self.check(1, loop_of("p", ["read x half2 p+0", "write half2 p+1 x"], 4, "p"))
        self.check(40, loop_of("p", ["read x half2 p+0", "write half2 p+2 x"], 4, "p"))

    def test_values_of_the_same_round(self):
        for value in ("x", "y", 5):
            self.check(40, loop_of("p q", ["read x c1 p+0", "read y c1 q+0", f"write c1 p+0 {value}"], 1))

    def test_against_trying(self):
        several = set()
        for seed in range(300):
            loop = made_loop(seed)
            dice = random.Random(seed)
            some = [0, 1, -1, dice.randint(-9, 9), dice.randint(-60, 60), 10 ** 39]
            for distance in [None, *some] if len(loop.pointers) == 2 else [None]:
                most = dice.choice((0, 1, 2, 5, 17, 40))
                wanted = rounds(loop, distance, most)
                self.assertEqual(lawful_rounds(loop, distance, most), wanted, (loop.steps, loop.step, distance))
                several.add(wanted)
        self.assertGreater(len(several), 7)

    def test_few_rounds_do_as_texts_do(self):
        checked = 0
        for seed in range(600):
            loop = made_loop(seed)
            dice = random.Random(seed)
            distance = dice.choice([None, 0, 1, -1, -2, 3, -4]) if len(loop.pointers) == 2 else None
            text, many = self.written_out(loop)
            laying = (None,) if len(loop.pointers) == 1 else (None, None if distance is None else ("p", distance))
            try:
                run = Run(text, laying)
            except ValueError:
                continue
            checked += 1
            wanted = many if run.lawful else run.at // len(loop)
            self.assertEqual(lawful_rounds(loop, distance, many), wanted, (loop.steps, loop.step, distance))
        self.assertGreater(checked, 200)

    def written_out(self, loop):
        """The text of as many whole rounds as one may have, with a name of its own for each value."""
        text, many = Text((), loop.pointers), 0
        while len(text) + len(loop) <= 12:
            steps = text.steps
            for step in loop.steps:
                at = 3 if step[0] == "read" else 2
                move = 0 if step[at] in loop.standing else many * loop.step
                parts = list(step)
                parts[at + 1] += move
                for k in (1, 4):
                    if isinstance(parts[k], str) and parts[k].startswith("x"):
                        parts[k] = f"{parts[k]}r{many}"
                steps += (tuple(parts),)
            try:
                text = Text((), loop.pointers, steps)
            except ValueError:
                break
            many += 1
        return text, many


class Apart(unittest.TestCase):
    def check(self, wanted, loop, i, j, k):
        found = apart(loop, i, j, k)
        self.assertEqual(found, wanted, (loop.steps, loop.step, i, j, k))
        self.assertIs(type(found), tuple)
        self.assertEqual(found, apart(loop=loop, i=i, j=j, k=k))
        self.assertEqual(found, apart_by_trying(loop, i, j, k))

    def test_one_pointer(self):
        loop = loop_of("p", ["read x int4 p+0", "write int4 p+4 x"], 4)
        self.check((False, None), loop, 0, 1, 0)
        self.check((False, None), loop, 0, 1, 1)
        self.check((True, None), loop, 1, 0, 1)
        self.check((False, None), loop, 1, 0, 2)
        self.check((False, None), loop, 0, 0, 1)
        self.check((False, None), loop, 1, 1, 1)
        loop = loop_of("p", ["write int4 p+0 1", "write c1 p+7 2"], 3)
        self.check((True, None), loop, 1, 0, 2)
        self.check((False, None), loop, 1, 0, 3)
        self.check((True, None), loop, 0, 0, 1)

    def test_standing(self):
        loop = loop_of("p", ["read x c1 p+0", "write c1 p+0 x"], 1, "p")
        for k in (1, 2, 39, 40):
            for i in (0, 1):
                for j in (0, 1):
                    self.check((i + j > 0, None), loop, i, j, k)
        self.check((True, None), loop, 0, 1, 0)

    def test_the_order_of_the_distances(self):
        lines = ["write half2 p+0 1", "write half2 q+0 2"]
        loop = loop_of("p q", lines, 2)
        self.check((True, 0), loop, 0, 1, 0)
        self.check((True, -1), loop, 0, 1, 1)
        self.check((True, 1), loop, 1, 0, 1)
        self.check((True, -79), loop, 0, 1, 40)
        self.check((True, 79), loop, 1, 0, 40)
        self.check((True, None), loop_of("p q", lines, 1), 0, 0, 1)

    def test_of_two_distances_the_negative_one(self):
        # The read of q is unlawful at the three bytes that p reads as one thing, but not beside them.
        lines = ["read x int4 p+2", "read y c1 q+3", "write int4 q+2 1"]
        self.check((True, -2), loop_of("p q", lines, 8), 0, 2, 0)
        lines = ["read x int4 p+2", "read y int4 q+2", "write rgb3 q+3 1"]
        self.check((True, 0), loop_of("p q", lines, 8), 0, 2, 0)
        lines = ["read x half2 p+3", "read y d1 q+3", "read z d1 q+4", "write int4 q+2 1"]
        self.check((True, -2), loop_of("p q", lines, 8), 0, 3, 0)
        lines = ["read x c1 p+3", "read y d1 q+3", "write rgb3 q+2 1"]
        self.check((True, -1), loop_of("p q", lines, 8), 0, 2, 0)

    def test_only_with_a_distance_that_is_lawful(self):
        # Apart, the read finds what came in, of another kind than in the round before.
        loop = loop_of("p q", ["read x d1 p+0", "read y c1 q+0", "write c1 p+0 1"], 1, "pq")
        self.check((False, None), loop, 0, 2, 1)
        self.check((True, None), loop, 0, 2, 0)
        # Apart, p reads what it wrote in the round before, of another kind; at some distances q writes between.
        loop = loop_of("p q", ["read x c1 p+0", "write d1 p+1 1", "write c1 q+0 1"], 1)
        self.assertEqual(lawful_rounds(loop, None, 2), 1)
        self.check((True, 1), loop, 1, 0, 1)

    def test_steps_that_write_nothing(self):
        loop = loop_of("p q", ["read x c1 p+0", "read y c1 q+0"], 1)
        for k in (1, 5, 40):
            for i in (0, 1):
                for j in (0, 1):
                    self.check((False, None), loop, i, j, k)
        self.check((False, None), loop, 0, 1, 0)

    def test_the_whole_run_is_lawful(self):
        # They touch in the first round, but a later step of the last round is unlawful at that distance.
        loop = loop_of("p q", ["write c1 p+0 1", "write d1 q+0 1", "read x c1 p+0"], 4)
        self.check((False, None), loop, 0, 1, 0)
        self.check((True, -4), loop, 0, 1, 1)

    def test_no_step(self):
        loop = loop_of("p q", ["write c1 p+0 1", "write d1 q+0 1", "read x c1 p+0"], 4)
        for wrong in [-1, 3, 4, 10 ** 59, True, False, None, "0", (0,), [0], [], loop]:
            for ask in [lambda i, j: apart(loop, i, j, 1), lambda i, j: nearest(loop, i, j)]:
                for i, j in [(wrong, 0), (0, wrong), (wrong, 7), (wrong, "a")]:
                    with self.assertRaises(NoStep) as caught:
                        ask(i, j)
                    self.assertIs(caught.exception.index, i if i is wrong else j)
            with self.assertRaises(NoStep) as caught:
                ahead(loop, wrong)
            self.assertIs(caught.exception.index, wrong)

    def test_against_trying(self):
        seen = set()
        for seed in range(250):
            loop = made_loop(seed)
            dice = random.Random(seed)
            i, j = dice.randrange(len(loop)), dice.randrange(len(loop))
            for k in (dice.choice((1, 2, 3)), dice.randint(4, 40)):
                found = apart(loop, i, j, k)
                self.assertEqual(found, apart_by_trying(loop, i, j, k), (loop.steps, loop.step, loop.standing, i, j, k))
                seen.add(found)
            if i < j:
                self.assertEqual(apart(loop, i, j, 0), apart_by_trying(loop, i, j, 0))
        self.assertGreater(len(seen), 20)

    def test_runs_of_more_rounds_show_no_others(self):
        # Two steps k rounds apart, in the middle of a longer lawful run, also meet in one of k + 1 rounds.
        for seed in range(80):
            loop = made_loop(seed)
            many = 6
            for distance in distances(loop, 20):
                if rounds(loop, distance, many) < many:
                    continue
                for i, j, k in self.meeting_in(loop, distance, many):
                    self.assertTrue(apart(loop, i, j, k)[0], (loop.steps, i, j, k))

    def meeting_in(self, loop, distance, many):
        rows = [rows_in(loop, distance, lap) for lap in range(many)]
        indexes = range(len(loop))
        return {(i, j, k) for lap in range(1, many) for k in range(many - lap) for i in indexes for j in indexes
                if (k or i < j) and "write" in (loop.steps[i][0], loop.steps[j][0])
                and set(rows[lap][i]) & set(rows[lap + k][j])}


class Nearest(unittest.TestCase):
    def check(self, wanted, loop, i, j):
        self.assertEqual(nearest(loop, i, j), wanted)
        self.assertEqual(nearest(loop=loop, i=i, j=j), wanted)

    def test_one_pointer(self):
        loop = loop_of("p", ["read x c1 p+0", "write c1 p+7 x"], 1)
        self.check(7, loop, 1, 0)
        self.check(None, loop, 0, 1)
        self.check(None, loop, 1, 1)
        self.assertEqual((ahead(loop, 0), ahead(loop, 1)), (6, None))
        self.assertEqual((ahead(loop=loop, j=0), ahead(loop=loop, j=1)), (6, None))
        self.assertIs(type(ahead(loop, 0)), int)
        for step, near in [(1, 7), (2, None), (3, None), (7, 1)]:
            self.check(near, loop_of("p", ["read x c1 p+0", "write c1 p+7 x"], step), 1, 0)

    def test_the_least_of_all_steps(self):
        loop = loop_of("p", ["write c1 p+7 1", "write c1 p+4 2", "write c1 p+0 3"], 1)
        self.check(7, loop, 0, 2)
        self.check(4, loop, 1, 2)
        self.check(3, loop, 0, 1)
        self.assertEqual([ahead(loop, j) for j in range(3)], [None, 2, 3])

    def test_none(self):
        loop = loop_of("p q", ["read x c1 p+0", "read y c1 q+0"], 1)
        self.assertEqual((nearest(loop, 0, 1), ahead(loop, 0), ahead(loop, 1)), (None, None, None))
        loop = loop_of("p", ["write c1 p+0 1", "read x d1 p+0"], 1)
        self.assertEqual((nearest(loop, 0, 1), nearest(loop, 0, 0), ahead(loop, 0)), (None, None, None))

    def test_standing(self):
        loop = loop_of("p q", ["read x c1 p+0", "write d1 q+0 1"], 1, "p")
        # Where q comes, p reads no more in a later round: only in the last round may it write there.
        self.check(1, loop, 0, 1)
        self.check(None, loop, 1, 0)
        self.assertEqual((ahead(loop, 0), ahead(loop, 1)), (None, 0))

    def test_against_all_rounds(self):
        found = {}
        for seed in range(70):
            loop = made_loop(seed)
            table = {(i, j): [k for k in range(1, 41) if apart(loop, i, j, k)[0]]
                     for i in range(len(loop)) for j in range(len(loop))}
            for (i, j), rows in table.items():
                self.check(rows[0] if rows else None, loop, i, j)
            for j in range(len(loop)):
                rows = [table[(i, j)][0] for i in range(len(loop)) if table[(i, j)]]
                wanted = min(rows) - 1 if rows else None
                self.assertEqual(ahead(loop, j), wanted)
                found[wanted] = True
        self.assertGreater(len(found), 3)


class Slow(unittest.TestCase):
    LOOPS = [("p q", ["read x c1 p+0", "write c1 q+0 x", "read y c1 p+7", "write c1 q+7 y"]),
             ("p q", ["write c1 p+0 1", "read x c1 p+0", "write d1 p+0 1", "read y d1 p+0"]),
             ("p q", ["write int4 p+0 1", "write int4 p+4 1", "write int4 q+0 2", "write int4 q+4 2"]),
             ("p q", ["read x c1 p+0", "read y c1 p+1", "write d1 q+0 2", "read z d1 q+0"]),
             ("p", ["read x half2 p+0", "write half2 p+6 x", "read y half2 p+4", "write half2 p+2 y"])]

    def test_how_long_the_calls_with_the_most_rounds_take(self):
        slowest = 0
        for head, lines in self.LOOPS:
            for step in (1, 2, 8):
                for standing in ("", "p", "q", "pq"):
                    if "q" in standing and "q" not in head:
                        continue
                    loop = loop_of(head, lines, step, standing)
                    for ask in [lambda: lawful_rounds(loop, 10 ** 39, 40), lambda: apart(loop, 0, 3, 40),
                                lambda: apart(loop, 1, 1, 40), lambda: nearest(loop, 0, 3), lambda: ahead(loop, 3),
                                lambda: ahead(loop, 0)]:
                        begin = time.perf_counter()
                        ask()
                        slowest = max(slowest, time.perf_counter() - begin)
        print(f"the slowest call about a loop: {slowest:.2f} seconds")
        self.assertLess(slowest, MOST_SECONDS)

    def test_loops_do_not_change(self):
        loop = loop_of("p q", ["read x c1 p+0", "write c1 q+0 x"], 1, "q")
        before = (loop.pointers, loop.steps, loop.step, loop.standing)
        first = (apart(loop, 0, 1, 3), nearest(loop, 1, 0), ahead(loop, 0), lawful_rounds(loop, 3, 9))
        self.assertEqual((apart(loop, 0, 1, 3), nearest(loop, 1, 0), ahead(loop, 0), lawful_rounds(loop, 3, 9)), first)
        self.assertEqual((loop.pointers, loop.steps, loop.step, loop.standing), before)


if __name__ == "__main__":
    unittest.main()
