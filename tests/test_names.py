"""The names of the interface: every function and class, called by the names of its parameters."""

import inspect
import unittest

from lastkind import changes, desk, errors, finds, layings, loops, notes, orders, pairs, papers, runs, standing, steps
from lastkind import texts, unseen, words
from values import text_of

TEXT = text_of("p q", "read x c1 p+0", "read y c1 q+0", "write c1 p+4 x", "tell y")
STEPS = TEXT.steps[:3]
LOOP = {"pointers": ("p", "q"), "steps": STEPS, "step": 4, "standing": ("q",)}

# Each function and class, its arguments by name, and what comes back (None if that is an object of its own).
CALLS = [
    (words.is_name, {"thing": "p"}, True),
    (words.is_kind, {"thing": "p"}, False),
    (words.size_of, {"kind": "int4"}, 4),
    (steps.is_step, {"thing": ("tell", "x")}, True),
    (texts.Text, {"places": (), "pointers": ("p", "q"), "steps": TEXT.steps}, TEXT),
    (TEXT.with_step, {"step": ("tell", "x")}, text_of("p q", "read x c1 p+0", "read y c1 q+0", "write c1 p+4 x",
                                                     "tell y", "tell x")),
    (TEXT.names, {}, ("p", "q")),
    (texts.Text.read, {"note": "pointer p"}, text_of("p")),
    (notes.read_text, {"note": "pointer p"}, text_of("p")),
    (notes.write_text, {"text": text_of("p q")}, "pointer p\npointer q"),
    (layings.layings, {"text": text_of("p"), "lawful": True}, [(None,)]),
    (layings.is_laying, {"text": TEXT, "thing": (None, None)}, True),
    (runs.Run, {"text": TEXT, "laying": (None, None)}, None),
    (runs.Run(TEXT, (None, None)).found, {"index": 1}, ("first", 1)),
    (runs.Run(TEXT, (None, None)).told, {}, [("first", 1)]),
    (runs.Run(text_of("p"), (None,)).end, {}, {}),
    (finds.finds, {"text": text_of("p", "read x c1 p+0")}, [(0, -1, "always", (None,))]),
    (pairs.meets, {"text": TEXT}, [(1, 2, (None, ("p", 4)))]),
    (pairs.needs, {"text": TEXT}, [(0, 2), (1, 3)]),
    (pairs.binding, {"text": TEXT}, [(0, 2), (1, 2), (1, 3)]),
    (orders.turned_pair, {"text": TEXT, "order": (0, 2, 1, 3)}, (1, 2)),
    (orders.turned, {"text": TEXT, "order": (0, 1, 2, 3)}, TEXT),
    (orders.number_of, {"text": TEXT, "order": (0, 1, 3, 2)}, 1),
    (orders.order_at, {"text": TEXT, "number": 1}, (0, 1, 3, 2)),
    (orders.count_orders, {"text": TEXT}, 5),
    (orders.orders, {"text": text_of("p")}, None),
    (changes.may_change, {"text": TEXT, "k": 0}, True),
    (changes.may_change_back, {"text": TEXT, "k": 0}, True),
    (changes.changes, {"text": TEXT, "order": (1, 0, 2, 3)}, [0]),
    (standing.stands, {"text": TEXT, "other": TEXT}, None),
    (standing.forwarded, {"text": TEXT}, TEXT),
    (unseen.tied, {"text": TEXT}, [(1, 2)]),
    (unseen.drifts, {"text": TEXT, "order": (1, 0, 2, 3)}, True),
    (unseen.dead, {"text": TEXT}, []),
    (unseen.shortened, {"text": TEXT}, TEXT),
    (loops.Loop, LOOP, None),
    (loops.lawful_rounds, {"loop": loops.Loop(**LOOP), "distance": None, "most": 3}, 3),
    (loops.apart, {"loop": loops.Loop(**LOOP), "i": 2, "j": 0, "k": 1}, (True, None)),
    (loops.nearest, {"loop": loops.Loop(**LOOP), "i": 2, "j": 0}, 1),
    (loops.ahead, {"loop": loops.Loop(**LOOP), "j": 0}, 0),
    (papers.paper, {"text": TEXT, "i": 0, "j": 1}, ("apart", [])),
    (papers.holds, {"text": TEXT, "i": 0, "j": 1, "thing": ("apart", [])}, True),
    (desk.Desk, {}, None),
    (desk.Desk().say, {"command": "note"}, "empty"),
    (errors.BadText, {"part": "steps", "index": 1}, None),
    (errors.BadNote, {"line": 1}, None),
    (errors.NoLaying, {"laying": ()}, None),
    (errors.NoOrder, {"order": ()}, None),
    (errors.Turned, {"pair": (0, 1)}, None),
    (errors.BadLoop, {"part": "step"}, None),
    (errors.BadCommand, {"command": ""}, None),
    (errors.NothingDone, {}, None),
    (errors.NoStep, {"index": 1}, None),
]

# Those that stand after `*`: by name only.
NAMED = {"layings": ["lawful"], "Loop": ["step", "standing"]}


class Names(unittest.TestCase):
    def test_by_name(self):
        for ask, given, wanted in CALLS:
            found = ask(**given)
            if wanted is not None:
                self.assertEqual(found, wanted, ask)
                self.assertIs(type(found), type(wanted), ask)

    def test_by_position(self):
        for ask, given, wanted in CALLS:
            named = NAMED.get(ask.__name__, [])
            found = ask(*[given[name] for name in given if name not in named], **{name: given[name] for name in named})
            if wanted is not None:
                self.assertEqual(found, wanted, ask)

    def test_by_name_only(self):
        for ask, given, _ in CALLS:
            if ask.__name__ in NAMED:
                with self.assertRaises(TypeError):
                    ask(*given.values())

    def test_no_other_parameters(self):
        for ask, given, _ in CALLS:
            if ask is not errors.NothingDone:
                self.assertEqual(list(inspect.signature(ask).parameters), list(given), ask)

    def test_arguments_do_not_change(self):
        thing = [["apart", []], {"a": [1]}]
        for ask in [lambda: papers.holds(TEXT, 0, 1, thing), lambda: layings.is_laying(TEXT, thing),
                    lambda: steps.is_step(thing), lambda: words.is_name(thing), lambda: thing in TEXT]:
            self.assertIs(ask(), False)
        for ask in [lambda: orders.turned(TEXT, thing), lambda: changes.changes(TEXT, thing),
                    lambda: unseen.drifts(TEXT, thing), lambda: desk.Desk().say(thing),
                    lambda: loops.Loop(thing, thing, step=thing), lambda: papers.paper(TEXT, thing, thing),
                    lambda: loops.nearest(loops.Loop(**LOOP), thing, thing), lambda: changes.may_change(TEXT, thing),
                    lambda: orders.order_at(TEXT, thing), lambda: texts.Text(thing), lambda: TEXT.with_step(thing),
                    lambda: notes.read_text(thing), lambda: TEXT[thing]]:
            with self.assertRaises((errors.KindError, errors.NoStep)):
                ask()
        self.assertEqual(thing, [["apart", []], {"a": [1]}])


if __name__ == "__main__":
    unittest.main()
