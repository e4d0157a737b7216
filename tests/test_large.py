"""Texts of twelve steps and four names: how many layings they have, and how long the answers take."""

import itertools
import math
import time
import unittest

from lastkind.changes import changes, may_change, may_change_back
from lastkind.finds import finds
from lastkind.layings import is_laying, layings
from lastkind.orders import count_orders, number_of, order_at, orders, turned, turned_pair
from lastkind.pairs import binding, meets, needs
from lastkind.papers import holds, paper
from lastkind.runs import Run
from lastkind.standing import forwarded, stands
from lastkind.texts import Text
from lastkind.unseen import dead, drifts, shortened, tied

# Far more than what is needed, so that a slow machine does not fail.
MOST_SECONDS = 60

HEAD = "place a c1\npointer p\npointer q\npointer r\n"
COPIES = HEAD + "\n".join([
    "copy 8 p+0 q+0", "copy 8 q+0 r+0", "copy 8 r+0 p+0", "copy 7 p+0 a+1", "copy 8 q+0 p+0", "copy 8 r+0 q+0",
    "copy 8 p+0 r+0", "read x c1 p+0", "read y c1 q+7", "read z c1 r+3", "write c1 a+0 x", "tell z"])
WRITES = HEAD + "\n".join([
    "write int4 p+0 1", "write int4 p+4 2", "write int4 q+0 3", "write int4 q+4 4", "write int4 r+0 5",
    "write int4 r+4 6", "write c1 a+0 7", "write int4 a+1 8", "write half2 a+5 9", "write c1 a+7 8",
    "read x int4 p+0", "read y int4 r+4"])
PLACES = "place a int4\nplace b int4\npointer p\npointer q\n" + "\n".join([
    "copy 8 p+0 q+0", "copy 8 q+0 p+0", "copy 4 a+0 p+0", "copy 4 b+0 q+4", "read x int4 a+0", "read y int4 b+0",
    "write int4 a+0 y", "write int4 b+0 x", "copy 4 p+4 a+0", "copy 4 q+4 b+0", "read z int4 p+4", "tell z"])

# Names that use eight bytes each: of the heaps of four, of three and one other, of two and two, of two.
FULL = 10095 + 4 * 337 + 3 * 15 * 15 + 6 * 15 + 1


class Timed(unittest.TestCase):
    def timed(self, what, work):
        begin = time.perf_counter()
        found = work()
        seconds = time.perf_counter() - begin
        told = f"{len(found)} rows" if hasattr(found, "__len__") else found
        print(f"{what}: {told} in {seconds:.2f} seconds")
        self.assertLess(seconds, MOST_SECONDS)
        return found


class Large(Timed):
    def check(self, word, note, many):
        text = Text.read(note)
        self.assertEqual((len(text), len(text.names())), (12, 4))
        found = self.timed(f"layings, {word}", lambda: layings(text))
        self.assertEqual(len(found), many)
        self.assertEqual(len(set(found)), many)
        for laying in found[::17]:
            self.assertIs(is_laying(text, laying), True)
        lawful = self.timed(f"lawful layings, {word}", lambda: layings(text, lawful=True))
        self.assertEqual([laying for laying in found[:600] if Run(text, laying).lawful],
                         [laying for laying in lawful if laying in found[:600]])
        rows = self.timed(f"finds, {word}", lambda: finds(text))
        for read, source, word, laying in rows:
            if laying is not None:
                index = Run(text, laying).found(read)
                self.assertEqual(index[0] if source == -1 else index, "first" if source == -1 else ("write", source))
        return lawful, rows

    def test_copies(self):
        lawful, rows = self.check("copies", COPIES, FULL)
        self.assertEqual([row[2] for row in rows], ["always"] * 3)
        self.assertEqual(lawful[0], (None, None, None, None))

    def test_writes(self):
        lawful, rows = self.check("writes", WRITES, FULL)
        self.assertEqual(len(rows), 22)
        self.assertIn((11, 5, "always", (None, None, None, None)), rows)
        self.assertIn((10, 0, "sometimes", (None, None, None, None)), rows)
        self.assertEqual(lawful[0], (None, None, None, None))

    def test_two_places(self):
        lawful, rows = self.check("two places", PLACES, 1 + 15 + 4 * 11 + 2 * 11 * 11 + 2 * 233)
        self.assertTrue(all(row[2] in ("always", "sometimes", "never") for row in rows))


class Answers(Timed):
    def check(self, word, note):
        text = Text.read(note)
        rows = self.timed(f"meets, {word}", lambda: meets(text))
        for i, j, laying in rows:
            self.assertIs(Run(text, laying).lawful, True)
        bound = self.timed(f"binding, {word}", lambda: binding(text))
        self.assertLessEqual({row[:2] for row in rows}, set(bound))
        many = self.timed(f"right orders, {word}", lambda: count_orders(text))
        last = self.timed(f"the last order, {word}", lambda: order_at(text, many - 1))
        self.assertEqual(self.timed(f"its number, {word}", lambda: number_of(text, last)), many - 1)
        again = self.timed(f"the turned text, {word}", lambda: turned(text, last))
        moves = self.timed(f"its changes, {word}", lambda: changes(text, last))
        self.assertEqual(len(moves), sum(j < i for i, j in itertools.combinations(last, 2)))
        self.assertIsNone(self.timed(f"whether it stands, {word}", lambda: stands(text, again)))
        other = self.timed(f"forwarded, {word}", lambda: forwarded(text))
        self.assertIsNone(stands(text, other))
        for k in range(11):
            self.assertIs(may_change(text, k), (k, k + 1) not in bound)
        self.check_unseen(word, text, {row[:2]: row[2] for row in rows})

    def check_unseen(self, word, text, met):
        ties = self.timed(f"tied, {word}", lambda: tied(text))
        self.assertLessEqual(set(ties), set(met))
        self.timed(f"dead, {word}", lambda: dead(text))
        short = self.timed(f"shortened, {word}", lambda: shortened(text))
        self.assertIsNone(stands(text, short))
        wanted = all(i < j for i, j in ties + needs(text))
        self.assertIs(self.timed(f"drifts, {word}", lambda: drifts(text, tuple(range(12)))), wanted)
        for i, j in [(0, 1), (0, 11), (4, 9)]:
            found = self.timed(f"paper, {word}", lambda: paper(text, i, j))
            self.assertEqual(found[0] == "meets", (i, j) in met)
            self.assertEqual(found[1], met.get((i, j), found[1]))
            self.assertIs(self.timed(f"holds, {word}", lambda: holds(text, i, j, found)), True)

    def test_copies(self):
        self.check("copies", COPIES)

    def test_writes(self):
        self.check("writes", WRITES)

    def test_two_places(self):
        self.check("two places", PLACES)

    def test_many_dead_steps(self):
        names = "pqr" * 3
        lines = [f"blank 8 {name}+0" for name in names] + ["write c1 a+0 1"]
        text = Text.read(HEAD + "\n".join(lines))
        self.assertEqual(self.timed("dead, many", lambda: dead(text)), [0, 1, 2, 3, 4, 5])
        short = self.timed("shortened, many", lambda: shortened(text))
        self.assertEqual(short.steps, text.steps[6:])
        self.assertIsNone(stands(text, short))


class ManyOrders(Timed):
    def check(self, text, many):
        self.assertEqual(self.timed("many orders", lambda: count_orders(text)), many)
        for number in (0, 1, many // 3, many - 2, many - 1):
            order = self.timed(f"order {number}", lambda: order_at(text, number))
            self.assertEqual(self.timed(f"number {number}", lambda: number_of(text, order)), number)
            self.assertIsNone(turned_pair(text, order))
        first = self.timed("the first orders", lambda: list(itertools.islice(orders(text), 3000)))
        self.assertEqual(first, sorted(set(first)))
        self.assertEqual([number_of(text, order) for order in first[:3]], [0, 1, 2])
        self.assertEqual(order_at(text, 2999), first[-1])
        self.assertEqual(len(changes(text, order)), sum(j < i for i, j in itertools.combinations(order, 2)))

    def test_twelve_reads(self):
        text = Text.read("pointer p\n" + "\n".join(f"read x{k} c1 p+{k % 8}" for k in range(12)))
        self.check(text, math.factorial(12))
        self.assertIs(may_change_back(text, 10), True)

    def test_writes_behind_places(self):
        rows = [f"write c1 {name}+{k} {k}" for name in "ab" for k in range(1, 7)]
        self.check(Text.read("place a c1\nplace b d1\n" + "\n".join(rows)), math.factorial(12))

    def test_reads_with_uses(self):
        # A tell stands behind those before it and behind its read, which leaves 2k + 1 spots to the read k
        # in front of it; the two reads that nothing uses stand anywhere.
        rows = [f"read x{k} c1 p+{k}" for k in range(7)] + [f"tell x{k}" for k in range(5)]
        self.check(Text.read("pointer p\n" + "\n".join(rows)), 1 * 3 * 5 * 7 * 9 * 11 * 12)

    def test_two_names(self):
        # Each write meets each read; so all reads stand in front, and the writes use different bytes.
        rows = [f"read x{k} c1 p+{k}" for k in range(8)] + [f"write d1 q+{k} x{k}" for k in range(4)]
        text = Text.read("pointer p\npointer q\n" + "\n".join(rows))
        self.assertEqual(len(meets(text)), 32)
        self.check(text, math.factorial(8) * math.factorial(4))


if __name__ == "__main__":
    unittest.main()
