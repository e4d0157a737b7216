"""Layings, runs and finds of many texts, against all callers, which are tried one by one: point [3]."""

import unittest

import oracle
from lastkind.finds import finds
from lastkind.layings import is_laying, layings
from lastkind.runs import Run

ASKING = ("read", "copy", "copy", "tell", "read", "write")

# What the texts are made with: a few names and kinds each, so that many of them are lawful.
FORMS = [
    {"places": 0, "pointers": 2, "steps": 8, "width": 3, "kinds": ("half2",)},
    {"places": 0, "pointers": 2, "steps": 10, "width": 2, "kinds": ("c1", "d1")},
    {"places": 0, "pointers": 2, "steps": 9, "width": 3, "kinds": ("half2",), "words": ASKING},
    {"places": 0, "pointers": 1, "steps": 12, "width": 6, "kinds": ("half2", "pair2"), "words": ASKING},
    {"places": 0, "pointers": 1, "steps": 12, "width": 4, "kinds": ("half2", "c1"), "words": ASKING},
    {"places": 0, "pointers": 1, "steps": 9, "width": 6, "kinds": ("rgb3",), "words": ASKING},
    {"places": 1, "pointers": 1, "steps": 7, "width": 3, "kinds": ("half2", "c1")},
    {"places": 1, "pointers": 1, "steps": 9, "width": 4, "kinds": ("half2",), "words": ASKING},
    {"places": 1, "pointers": 2, "steps": 6, "width": 2, "kinds": ("half2",)},
    {"places": 2, "pointers": 1, "steps": 6, "width": 3},
]


class Trials(unittest.TestCase):
    def texts(self, many):
        for form in FORMS:
            for seed in range(many):
                yield oracle.made_text(seed, **form)

    def test_each_run(self):
        lawful = 0
        for text in self.texts(60):
            for laying in layings(text):
                self.assertIs(is_laying(text, laying), True)
                run = Run(text, laying)
                callers, furthest = oracle.callers(text, laying)
                self.assertIs(run.lawful, callers != [], (text.steps, laying))
                self.assertEqual(run.at, None if callers else furthest, (text.steps, laying))
                if callers:
                    lawful += 1
                    self.check_callers(text, run, callers)
        self.assertGreater(lawful, 200)

    def check_callers(self, text, run, callers):
        """All callers find and tell what the run tells; some of them have a thing for each index told."""
        apart = False
        for caller in callers:
            pairs = self.found_pairs(text, run, caller)
            told, end = caller.told(), caller.end()
            self.assertEqual(len(run.told()), len(told))
            self.assertEqual(run.end().keys(), end.keys())
            pairs += zip(run.told(), told)
            for byte, load in run.end().items():
                pairs += self.load_pairs(load, end[byte])
            self.assertTrue(oracle.agrees(pairs), text.steps)
            meant = {told: real for told, real in pairs if isinstance(told, tuple)}
            apart = apart or len(set(meant.values())) == len(meant)
        self.assertTrue(apart, text.steps)

    def found_pairs(self, text, run, caller):
        pairs = []
        for k, step in enumerate(text.steps):
            if step[0] == "read":
                word, index = run.found(k)
                thing = caller.found[k]
                self.assertEqual(word, "write" if thing[0] == "made" else "first", text.steps)
                self.assertIn(index, range(k + 1))
                if word == "write":
                    self.assertEqual(index, thing[2], text.steps)
                else:
                    self.assertIn(text.steps[index][0], ("read", "copy"))
                    pairs.append((("first", index), thing))
        return pairs

    def load_pairs(self, load, real):
        if load is None or load[0] == "first":
            self.assertEqual(real, load and ("unknown", load[1]))
            return []
        self.assertEqual(load[:2], real[:2])
        return [(load[2], real[2])]

    def test_finds(self):
        words = set()
        for text in self.texts(60):
            tried = [(laying, oracle.callers(text, laying)[0]) for laying in layings(text)]
            lawful = [(laying, callers[0].found) for laying, callers in tried if callers]
            self.assertEqual(layings(text, lawful=True), [laying for laying, _ in lawful])
            for read, source, word, laying in finds(text):
                under = [laying for laying, found in lawful if self.source_of(found[read]) == source]
                some = "always" if len(under) == len(lawful) else "sometimes"
                self.assertEqual((word, laying), (some, under[0]) if under else ("never", None))
                words.add(word)
        self.assertEqual(words, {"always", "sometimes", "never"})

    def source_of(self, thing):
        return thing[2] if thing[0] == "made" else -1


if __name__ == "__main__":
    unittest.main()
