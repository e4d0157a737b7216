"""Texts of twelve steps and four names: how many layings they have, and how long these take."""

import time
import unittest

from lastkind.finds import finds
from lastkind.layings import is_laying, layings
from lastkind.runs import Run
from lastkind.texts import Text

# Far more than what is needed, so that a slow machine does not fail.
MOST_SECONDS = 60

HEAD = "place a c1\npointer p\npointer q\npointer r\n"
COPIES = HEAD + "\n".join([
    "copy 8 p+0 q+0", "copy 8 q+0 r+0", "copy 8 r+0 p+0", "copy 7 p+0 a+1", "copy 8 q+0 p+0", "copy 8 r+0 q+0",
    "copy 8 p+0 r+0", "read x c1 p+0", "read y c1 q+7", "read z c1 r+3", "write c1 a+0 x", "tell z"])
WRITES = HEAD + "\n".join([
    "write int4 p+0 1", "write int4 p+4 2", "write int4 q+0 3", "write int4 q+4 4", "write int4 r+0 5",
    "write int4 r+4 6", "write c1 a+0 7", "write int4 a+1 8", "write half2 a+5 9", "write c1 a+7 8",
    "read x int4 p+0", "read y int4 r+4"])
PLACES = "place a int4\nplace b int4\npointer p\npointer q\n" + "\n".join([
    "copy 8 p+0 q+0", "copy 8 q+0 p+0", "copy 4 a+0 p+0", "copy 4 b+0 q+4", "read x int4 a+0", "read y int4 b+0",
    "write int4 a+0 y", "write int4 b+0 x", "copy 4 p+4 a+0", "copy 4 q+4 b+0", "read z int4 p+4", "tell z"])

# Names that use eight bytes each: of the heaps of four, of three and one other, of two and two, of two.
FULL = 10095 + 4 * 337 + 3 * 15 * 15 + 6 * 15 + 1


class Large(unittest.TestCase):
    def timed(self, what, work):
        begin = time.perf_counter()
        found = work()
        seconds = time.perf_counter() - begin
        print(f"{what}: {len(found)} rows in {seconds:.2f} seconds")
        self.assertLess(seconds, MOST_SECONDS)
        return found

    def check(self, word, note, many):
        text = Text.read(note)
        self.assertEqual((len(text), len(text.names())), (12, 4))
        found = self.timed(f"layings, {word}", lambda: layings(text))
        self.assertEqual(len(found), many)
        self.assertEqual(len(set(found)), many)
        for laying in found[::17]:
            self.assertIs(is_laying(text, laying), True)
        lawful = self.timed(f"lawful layings, {word}", lambda: layings(text, lawful=True))
        self.assertEqual([laying for laying in found[:600] if Run(text, laying).lawful],
                         [laying for laying in lawful if laying in found[:600]])
        rows = self.timed(f"finds, {word}", lambda: finds(text))
        for read, source, word, laying in rows:
            if laying is not None:
                index = Run(text, laying).found(read)
                self.assertEqual(index[0] if source == -1 else index, "first" if source == -1 else ("write", source))
        return lawful, rows

    def test_copies(self):
        lawful, rows = self.check("copies", COPIES, FULL)
        self.assertEqual([row[2] for row in rows], ["always"] * 3)
        self.assertEqual(lawful[0], (None, None, None, None))

    def test_writes(self):
        lawful, rows = self.check("writes", WRITES, FULL)
        self.assertEqual(len(rows), 22)
        self.assertIn((11, 5, "always", (None, None, None, None)), rows)
        self.assertIn((10, 0, "sometimes", (None, None, None, None)), rows)
        self.assertEqual(lawful[0], (None, None, None, None))

    def test_two_places(self):
        lawful, rows = self.check("two places", PLACES, 1 + 15 + 4 * 11 + 2 * 11 * 11 + 2 * 233)
        self.assertTrue(all(row[2] in ("always", "sometimes", "never") for row in rows))


if __name__ == "__main__":
    unittest.main()
