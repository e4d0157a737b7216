"""Finds: point [14], and what point [3] says of reads."""

import unittest

import oracle
from lastkind.finds import finds
from lastkind.layings import layings
from lastkind.runs import Run
from lastkind.texts import Text


class Words(unittest.TestCase):
    def check(self, note, wanted):
        found = finds(Text.read(note))
        self.assertEqual(found, wanted)
        self.assertTrue(all(type(row) is tuple for row in found))

    def test_always(self):
        self.check("pointer p\nwrite int4 p+0 7\nread x int4 p+0", [
            (1, -1, "never", None), (1, 0, "always", (None,))])
        self.check("pointer p\nread x int4 p+0", [(0, -1, "always", (None,))])

    def test_always_under_several_layings(self):
        self.check("pointer p\npointer q\nwrite half2 q+0 1\nwrite half2 p+0 7\nread x half2 p+0", [
            (2, -1, "never", None), (2, 0, "never", None), (2, 1, "always", (None, None))])

    def test_sometimes(self):
        self.check("pointer p\npointer q\nwrite int4 p+0 7\nread x int4 q+0", [
            (1, -1, "sometimes", (None, None)), (1, 0, "sometimes", (None, ("p", 0)))])

    def test_the_least_laying(self):
        self.check("pointer p\npointer q\nwrite half2 p+0 7\nwrite half2 p+3 7\nread x half2 q+2", [
            (2, -1, "sometimes", (None, None)), (2, 0, "sometimes", (None, ("p", -2))),
            (2, 1, "sometimes", (None, ("p", 1)))])
        self.check("pointer p\npointer q\npointer r\nwrite c1 p+0 7\nwrite c1 r+0 8\nread x c1 q+0", [
            (2, -1, "sometimes", (None, None, None)), (2, 0, "sometimes", (None, ("p", 0), None)),
            (2, 1, "sometimes", (None, None, ("q", 0)))])

    def test_the_least_laying_need_not_be_the_least_lawful_one(self):
        self.check("pointer p\npointer q\nblank 1 p+0\nwrite c1 p+1 7\nread x c1 q+0", [
            (2, -1, "sometimes", (None, None)), (2, 1, "sometimes", (None, ("p", 1)))])

    def test_never_where_the_kinds_differ(self):
        self.check("pointer p\npointer q\nwrite int4 p+0 7\nread x word4 q+0", [
            (1, -1, "always", (None, None)), (1, 0, "never", None)])

    def test_writes_behind_the_read_have_no_row(self):
        self.check("pointer p\npointer q\nread x c1 p+0\nwrite c1 q+0 7\nread y c1 p+0\nwrite c1 p+0 8", [
            (0, -1, "always", (None, None)),
            (2, -1, "sometimes", (None, None)), (2, 1, "sometimes", (None, ("p", 0)))])

    def test_only_reads_and_writes_have_rows(self):
        note = ("place a half2\npointer p\nwrite half2 p+0 7\ncopy 2 a+0 p+0\nblank 2 p+0\nread x half2 a+0\ntell x")
        self.check(note, [(3, -1, "never", None), (3, 0, "always", (None, None))])

    def test_through_copies(self):
        note = "pointer p\npointer q\nwrite half2 p+0 7\ncopy 2 q+0 p+0\nwrite half2 p+0 8\nread x half2 q+0"
        self.check(note, [
            (3, -1, "never", None), (3, 0, "sometimes", (None, None)), (3, 2, "sometimes", (None, ("p", 0)))])

    def test_a_copy_onto_a_place_asks_but_is_no_read(self):
        note = "place a half2\npointer p\ncopy 2 a+0 p+0\nread x half2 p+0"
        self.check(note, [(1, -1, "always", (None, None))])


class Settled(unittest.TestCase):
    def test_by_a_later_step(self):
        lines = ["pointer p", "pointer q", "write int4 p+0 7", "read x int4 q+0"]
        self.assertEqual([row[2] for row in finds(Text.read("\n".join(lines)))], ["sometimes", "sometimes"])
        same = [*lines, "write word4 p+0 8", "read y word4 q+0"]
        self.assertEqual(finds(Text.read("\n".join(same))), [
            (1, -1, "never", None), (1, 0, "always", (None, ("p", 0))),
            (3, -1, "never", None), (3, 0, "never", None), (3, 2, "always", (None, ("p", 0)))])
        apart = [*lines, "blank 4 p+0", "read y int4 q+0"]
        self.assertEqual(finds(Text.read("\n".join(apart))), [
            (1, -1, "always", (None, None)), (1, 0, "never", None),
            (3, -1, "always", (None, None)), (3, 0, "never", None)])


class Edges(unittest.TestCase):
    def test_no_lawful_laying(self):
        text = Text.read("pointer p\npointer q\nwrite int4 q+0 1\nread x c1 q+0\nwrite half2 p+0 x\nread y half2 p+0")
        self.assertEqual(finds(text), [
            (1, -1, "never", None), (1, 0, "never", None),
            (3, -1, "never", None), (3, 0, "never", None), (3, 2, "never", None)])

    def test_without_reads(self):
        self.assertEqual(finds(Text.read("pointer p\npointer q\nwrite int4 p+0 7\ncopy 2 q+0 p+0")), [])

    def test_without_steps(self):
        for note in ["", "pointer p", "place a int4\nplace b int4\npointer p\npointer q"]:
            self.assertEqual(finds(Text.read(note)), [])

    def test_the_list_is_new_each_time(self):
        text = Text.read("pointer p\nread x int4 p+0")
        finds(text).clear()
        finds(text).append(None)
        self.assertEqual(finds(text), [(0, -1, "always", (None,))])
        self.assertIs(type(finds(text)), list)
        self.assertEqual(finds(text=text), finds(text))

    def test_the_text_does_not_change(self):
        text = Text.read("pointer p\npointer q\nwrite c1 p+0 7\nread x c1 q+0")
        before = (text.places, text.pointers, text.steps)
        finds(text)
        self.assertEqual((text.places, text.pointers, text.steps), before)


class Order(unittest.TestCase):
    def test_by_read_and_then_by_source(self):
        for seed in range(40):
            text = oracle.made_text(seed, places=0, steps=8)
            rows = [row[:2] for row in finds(text)]
            self.assertEqual(rows, [
                (k, source) for k, step in enumerate(text.steps) if step[0] == "read"
                for source in [-1, *[at for at in range(k) if text.steps[at][0] == "write"]]])

    def test_each_row_against_the_runs_of_all_layings(self):
        for seed in range(40):
            text = oracle.made_text(seed, places=0, kinds=("half2", "c1"), steps=8)
            runs = [(laying, Run(text, laying)) for laying in layings(text)]
            runs = [(laying, run) for laying, run in runs if run.lawful]
            for read, source, word, laying in finds(text):
                found = [run.found(read)[0] if source == -1 else run.found(read) for _, run in runs]
                under = [found == ("first" if source == -1 else ("write", source)) for found in found]
                self.assertEqual(word, "never" if not any(under) else "always" if all(under) else "sometimes")
                self.assertEqual(laying, runs[under.index(True)][0] if any(under) else None)


if __name__ == "__main__":
    unittest.main()
