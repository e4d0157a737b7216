"""A desk: point [23]."""

import random
import unittest

import oracle
from lastkind.desk import Desk
from lastkind.errors import BadCommand, BadText, NoOrder, NoStep, NothingDone, Turned
from lastkind.finds import finds
from lastkind.layings import layings
from lastkind.notes import write_text
from lastkind.orders import count_orders, order_at, turned
from lastkind.pairs import binding
from lastkind.texts import Text
from lastkind.unseen import dead, shortened
from values import OTHERS, note_of, text_of

QUESTIONS = ["note", "layings", "pairs", "orders", "dead"]
LINES = ["write c1 p+0 1", "blank 1 q+0", "write c1 q+0 2", "read x c1 p+0", "tell x"]


def desk_of(text):
    """A desk on which a text was written line by line."""
    desk = Desk()
    for line in note_of(text).split("\n") if note_of(text) else []:
        assert desk.say(line) == "ok"
    return desk


class Checks(unittest.TestCase):
    def raises(self, error, desk, command, **wanted):
        """The command raises this error, with these attributes, and changes nothing."""
        before = desk.text
        note = desk.say("note")
        with self.assertRaises(error) as caught:
            desk.say(command)
        self.assertIs(type(caught.exception), error, command)
        for name, value in wanted.items():
            self.assertEqual(getattr(caught.exception, name), value, command)
            self.assertIs(type(getattr(caught.exception, name)), type(value), command)
        self.assertEqual(desk.text, before)
        self.assertEqual(desk.say("note"), note)

    def bad(self, command, text=text_of("p q", *LINES)):
        desk = desk_of(text)
        with self.assertRaises(BadCommand) as caught:
            desk.say(command)
        self.assertIs(caught.exception.command, command)
        self.assertEqual(desk.text, text)
        for _ in range(len(text.names()) + len(text)):
            self.assertEqual(desk.say("undo"), "ok")
        self.assertEqual(desk.text, Text())


class Writing(Checks):
    def test_the_text_at_first(self):
        desk = Desk()
        self.assertEqual(desk.text, Text())
        self.assertEqual([desk.say(word) for word in QUESTIONS], ["empty", "1 1", "none", "1", "none"])
        self.assertEqual(desk.say("order 0"), "none")

    def test_line_by_line(self):
        lines = ["place a int4", "pointer p", "pointer q", "read x int4 a+0", "write half2 p+6 -7", "write c1 q+0 x",
                 "copy 8 p+0 q+0", "blank 1 q+7", "tell x", f"write c1 p+0 {10 ** 40 - 1}"]
        desk = Desk()
        for k, line in enumerate(lines):
            self.assertEqual(desk.say(line), "ok")
            self.assertEqual(desk.text, Text.read("\n".join(lines[:k + 1])))
            self.assertEqual(desk.say("note"), "; ".join(lines[:k + 1]))

    def test_by_name(self):
        desk = Desk()
        self.assertEqual(desk.say(command="pointer p"), "ok")
        self.assertEqual(desk.say(command="note"), "pointer p")

    def test_places_and_pointers_behind_steps(self):
        desk = desk_of(text_of("a=c1 p", "read x c1 p+0", "tell x"))
        self.assertEqual([desk.say("pointer q"), desk.say("place b half2"), desk.say("blank 2 q+0")], ["ok"] * 3)
        self.assertEqual(desk.say("note"), "place a c1; place b half2; pointer p; pointer q; read x c1 p+0; tell x; "
                                           "blank 2 q+0")

    def test_what_cannot_stand_of_places(self):
        one = text_of("a=c1 p q", "read x c1 p+0")
        self.raises(BadText, desk_of(one), "place a c1", part="places", index=1)
        self.raises(BadText, desk_of(one), "place q c1", part="pointers", index=1)
        self.raises(BadText, desk_of(one), "place p int4", part="pointers", index=0)
        self.raises(BadText, desk_of(one), "place x c1", part="steps", index=0)
        self.raises(BadText, desk_of(text_of("a=c1 b=c1")), "place d c1", part="places", index=None)
        self.raises(BadText, desk_of(text_of("a=c1 b=c1")), "place a c1", part="places", index=None)
        self.raises(BadText, desk_of(text_of("a=c1 p q r")), "place b c1", part="pointers", index=None)
        self.raises(BadText, desk_of(text_of("a=c1 p q r")), "place a c1", part="places", index=1)

    def test_what_cannot_stand_of_pointers(self):
        one = text_of("a=c1 p q", "read x c1 p+0", "read y c1 p+1")
        self.raises(BadText, desk_of(one), "pointer p", part="pointers", index=2)
        self.raises(BadText, desk_of(one), "pointer a", part="pointers", index=2)
        self.raises(BadText, desk_of(one), "pointer y", part="steps", index=1)
        self.raises(BadText, desk_of(text_of("p q r")), "pointer s", part="pointers", index=None)
        self.raises(BadText, desk_of(text_of("p q r")), "pointer p", part="pointers", index=None)
        self.raises(BadText, desk_of(text_of("a=c1 b=c1 p q")), "pointer r", part="pointers", index=None)

    def test_what_cannot_stand_of_steps(self):
        text = text_of("a=c1 p", "read x c1 p+0", "tell x")
        for line in ["read x c1 p+0", "read p c1 p+0", "read a c1 p+0", "read y c1 q+0", "read y int4 p+5",
                     "write c1 q+0 1", "write c1 p+0 y", "write c1 p+0 p", "write half2 p+7 1", "copy 2 p+7 p+0",
                     "copy 2 p+0 p+7", "copy 1 q+0 p+0", "copy 1 p+0 q+0", "blank 8 p+1", "blank 1 q+0", "tell y",
                     "tell p"]:
            self.raises(BadText, desk_of(text), line, part="steps", index=2)
        full = text_of("p", *["blank 1 p+0"] * 12)
        self.raises(BadText, desk_of(full), "blank 1 p+0", part="steps", index=12)
        self.raises(BadText, Desk(), "blank 1 p+0", part="steps", index=0)


class Bad(Checks):
    def test_words_too_few_or_too_many(self):
        for command in ["", "place", "place a", "place a c1 c1", "pointer", "pointer r r", "read", "read y c1",
                        "read y c1 p+0 p+0", "write c1 p+0", "write c1 p+0 1 1", "copy 1 p+0", "copy 1 p+0 p+0 p+0",
                        "blank 1", "blank p+0", "blank 1 p+0 1", "tell", "tell x x", "change", "change 0 1", "shorten 0",
                        "undo 1", "note 0", "layings 0", "find", "find 3 3", "pairs 0", "orders 0", "order", "order 0 0",
                        "dead 0", "o", "blank 1 p +0", "find3", "order0"]:
            self.bad(command)

    def test_empty_words(self):
        for command in ["place a c1", "pointer r", "read y c1 p+0", "write c1 p+0 1", "copy 1 p+0 p+0", "blank 1 p+0",
                        "tell x", "change 2", "shorten", "undo", "note", "layings", "find 3", "pairs", "orders",
                        "order 0", "dead"]:
            self.bad(command + " ")
            self.bad(" " + command)
            self.bad(command + "\n")
            self.bad("\n" + command)
            self.bad(command + ";")
            if " " in command:
                self.bad(command.replace(" ", "  ", 1))
                self.bad(command.replace(" ", "\n", 1))
            self.bad(command.upper())
            self.bad(command.capitalize())
        self.bad(" ")
        self.bad("\n")

    def test_integers(self):
        for number in ["00", "01", "+1", "-0", "-1", "1.0", "1_0", "0x1", "x", "1" * 41, "0" * 40, "", "1 ", "one", "p"]:
            for word in ["change", "find", "order"]:
                self.bad(f"{word} {number}")
        for number in ["00", "01", "+1", "-0", "1" * 41, "-" + "1" * 41, "1.0", "X", "--1", "1-", "0x1"]:
            self.bad(f"write c1 p+0 {number}")
        for number in ["00", "01", "+1", "-0", "-1", "0", "9", "x", "1" * 41, ""]:
            self.bad(f"blank {number} p+0")
            self.bad(f"copy {number} p+0 p+0")
        for offset in ["8", "00", "07", "-1", "+1", "x", "", "1" * 41, "-0"]:
            for line in ["read y c1 p+{}", "write c1 p+{} 1", "blank 1 p+{}", "copy 1 p+{} p+0", "copy 1 p+0 p+{}"]:
                self.bad(line.format(offset))

    def test_names_and_kinds(self):
        for name in ["P", "1p", "", "p_", "ninechars", "p-"]:
            for line in ["place {} c1", "pointer {}", "read {} c1 p+0", "read y c1 {}+0", "write c1 p+0 {}", "tell {}",
                         "copy 1 {}+0 p+0", "copy 1 p+0 {}+0", "blank 1 {}+0"]:
                self.bad(line.format(name))
        for kind in ["c", "c0", "c5", "C1", "4", "", "sevenxx1", "c12", "c1a"]:
            for line in ["place b {}", "read y {} p+0", "write {} p+0 1"]:
                self.bad(line.format(kind))
        for line in ["read y c1 p", "blank 1 p-0", "blank 1 p+0+0", "blank 1 +0", "copy 1 p p", "write c1 p 1"]:
            self.bad(line)

    def test_no_strings(self):
        for command in OTHERS + [0, 7, ("note",), ["note"], "note".encode(), Desk]:
            self.bad(command)
        self.bad(text_of("p"))

    def test_other_words(self):
        for command in ["write", "steps", "text", "say", "quit", "redo", "meets", "needs", "binding", "tied", "count",
                        "shortened", "undo undo", "note\nnote", "note; note", "changes 0", "drop p"]:
            self.bad(command)

    def test_the_forms_that_are_good(self):
        many = "1" * 40
        desk = desk_of(text_of("p q", *LINES))
        self.raises(NoStep, desk, f"change {many}", index=int(many))
        self.raises(NoStep, desk, f"find {many}", index=int(many))
        self.raises(NoOrder, desk, f"order {many}", order=int(many))
        self.assertEqual(desk.say(f"write c1 p+0 -{many}"), "ok")
        self.assertEqual(desk.say("write c1 p+0 0"), "ok")


class Changing(Checks):
    def test_change(self):
        text = text_of("p", "read x c1 p+0", "read y c1 p+1", "tell y", "blank 1 p+4")
        desk = desk_of(text)
        self.assertEqual(desk.say("change 0"), "ok")
        self.assertEqual(desk.text, turned(text, (1, 0, 2, 3)))
        self.assertEqual(desk.say("change 1"), "ok")
        self.assertEqual(desk.text, turned(text, (1, 2, 0, 3)))
        self.raises(Turned, desk, "change 0", pair=(0, 1))
        self.assertEqual(desk.say("change 2"), "ok")
        self.assertEqual(desk.say("note"), "pointer p; read y c1 p+1; tell y; blank 1 p+4; read x c1 p+0")
        for k in (3, 4, 10 ** 39):
            self.raises(NoStep, desk, f"change {k}", index=k)

    def test_change_without_neighbours(self):
        for text in Text(), text_of("p"), text_of("p", "blank 1 p+0"):
            self.raises(NoStep, desk_of(text), "change 0", index=0)

    def test_shorten(self):
        text = text_of("p", "blank 1 p+0", "blank 1 p+0", "write c1 p+0 1", "read x c1 p+0")
        desk = desk_of(text)
        self.assertEqual(desk.say("dead"), "0 1")
        self.assertEqual(desk.say("shorten"), "ok")
        self.assertEqual(desk.say("note"), "pointer p; write c1 p+0 1; read x c1 p+0")
        self.assertEqual(desk.say("shorten"), "ok")
        self.assertEqual(desk.say("dead"), "none")
        self.assertEqual((desk.say("undo"), desk.text), ("ok", shortened(text)))
        self.assertEqual((desk.say("undo"), desk.text), ("ok", text))


class Undo(Checks):
    def test_back_to_the_empty_text_and_beyond(self):
        text = text_of("a=c1 p", "blank 1 p+0", "read x c1 a+0")
        desk = desk_of(text)
        lines = note_of(text).split("\n")
        for many in range(3, -1, -1):
            self.assertEqual(desk.say("undo"), "ok")
            self.assertEqual(desk.text, Text.read("\n".join(lines[:many])))
        for _ in range(3):
            self.raises(NothingDone, desk, "undo")
        self.assertEqual((desk.say("pointer p"), desk.say("undo"), desk.text), ("ok", "ok", Text()))
        self.raises(NothingDone, desk, "undo")

    def test_at_first(self):
        self.raises(NothingDone, Desk(), "undo")

    def test_behind_questions_and_errors(self):
        desk = desk_of(text_of("p", "read x c1 p+0"))
        for question in [*QUESTIONS, "find 0", "order 0"]:
            desk.say(question)
        for wrong in ["pointer p", "tell y", "change 0", "find 7", "order 7", "nothing", None, "note ", "change 01"]:
            with self.assertRaises((BadText, NoStep, NoOrder, BadCommand)):
                desk.say(wrong)
        self.assertEqual((desk.say("undo"), desk.text), ("ok", text_of("p")))
        self.assertEqual((desk.say("undo"), desk.text), ("ok", Text()))
        self.raises(NothingDone, desk, "undo")

    def test_an_undone_command_is_not_undone_again(self):
        desk = Desk()
        desk.say("pointer p")
        desk.say("pointer q")
        desk.say("undo")
        desk.say("pointer r")
        self.assertEqual(desk.say("note"), "pointer p; pointer r")
        desk.say("undo")
        self.assertEqual(desk.say("note"), "pointer p")
        desk.say("undo")
        self.raises(NothingDone, desk, "undo")

    def test_a_change(self):
        text = text_of("p", "read x c1 p+0", "read y c1 p+1")
        desk = desk_of(text)
        desk.say("change 0")
        desk.say("change 0")
        self.assertEqual(desk.text, text)
        desk.say("undo")
        self.assertEqual(desk.text, turned(text, (1, 0)))
        desk.say("undo")
        self.assertEqual(desk.text, text)


class Questions(Checks):
    TEXT = text_of("p q", *LINES)

    def test_note(self):
        self.assertEqual(desk_of(self.TEXT).say("note"), "pointer p; pointer q; " + "; ".join(LINES))

    def test_layings(self):
        desk = desk_of(text_of("p q", "read x int4 p+0", "write half2 q+0 1"))
        self.assertEqual(desk.say("layings"), "6 6")
        desk.say("read y half2 p+0")
        self.assertEqual(desk.say("layings"), "6 1")
        desk.say("read z pair2 p+0")
        self.assertEqual(desk.say("layings"), "6 0")

    def test_find(self):
        desk = desk_of(self.TEXT)
        self.assertEqual(desk.say("find 3"), "0 sometimes, 2 sometimes")
        desk = desk_of(text_of("p q", "write c1 q+0 1", "read x c1 p+0", "write c1 p+0 2", "read y c1 p+0"))
        self.assertEqual(desk.say("find 1"), "first sometimes, 0 sometimes")
        self.assertEqual(desk.say("find 3"), "2 always")
        self.assertEqual(desk_of(text_of("p", "read x c1 p+0")).say("find 0"), "first always")
        torn = desk_of(text_of("p", "write c1 p+0 1", "read x d1 p+0"))
        self.assertEqual(torn.say("find 1"), "none")
        for k in (0, 1, 2, 4, 5, 6, 99):
            self.raises(NoStep, desk_of(self.TEXT), f"find {k}", index=k)
        self.raises(NoStep, Desk(), "find 0", index=0)

    def test_pairs(self):
        self.assertEqual(desk_of(text_of("p", "read x c1 p+0", "tell x", "blank 1 p+0")).say("pairs"), "0-1 0-2")
        self.assertEqual(desk_of(text_of("p", "read x c1 p+0")).say("pairs"), "none")

    def test_two_digits(self):
        desk = desk_of(text_of("p", *[f"read x{k} c1 p+0" for k in range(10)], "blank 1 p+7", "blank 1 p+7"))
        self.assertEqual(desk.say("pairs"), "10-11")
        self.assertEqual(desk.say("orders"), str(479001600 // 2))
        self.assertEqual(desk.say("dead"), "10")
        self.assertEqual(desk.say("order 0"), "0 1 2 3 4 5 6 7 8 9 10 11")
        self.assertEqual(desk.say(f"order {479001600 // 2 - 1}"), "10 11 9 8 7 6 5 4 3 2 1 0")
        self.raises(NoOrder, desk, f"order {479001600 // 2}", order=479001600 // 2)

    def test_orders(self):
        desk = desk_of(text_of("p", "read x c1 p+0", "read y c1 p+1", "tell x"))
        self.assertEqual(desk.say("orders"), "3")
        self.assertEqual([desk.say(f"order {k}") for k in range(3)], ["0 1 2", "0 2 1", "1 0 2"])
        for k in (3, 4, 10 ** 39):
            self.raises(NoOrder, desk, f"order {k}", order=k)
        self.assertEqual(Desk().say("order 0"), "none")
        self.raises(NoOrder, Desk(), "order 1", order=1)

    def test_dead(self):
        self.assertEqual(desk_of(text_of("p", *["blank 1 p+0"] * 3)).say("dead"), "0 1")
        self.assertEqual(desk_of(text_of("p", "blank 1 p+0")).say("dead"), "none")

    def test_answers_of_made_texts(self):
        for seed in range(60):
            text = oracle.made_text(seed, places=1, pointers=2, steps=7, kinds=("half2", "c1"))
            desk = desk_of(text)
            self.assertEqual(desk.text, text)
            self.assertEqual(desk.say("note"), write_text(text).replace("\n", "; ") or "empty")
            self.assertEqual(desk.say("layings"), f"{len(layings(text))} {len(layings(text, lawful=True))}")
            self.assertEqual(desk.say("pairs"), " ".join(f"{i}-{j}" for i, j in binding(text)) or "none")
            self.assertEqual(desk.say("dead"), " ".join(map(str, dead(text))) or "none")
            many = count_orders(text)
            self.assertEqual(desk.say("orders"), str(many))
            number = random.Random(seed).randrange(many)
            self.assertEqual(desk.say(f"order {number}"), " ".join(map(str, order_at(text, number))) or "none")
            for k, step in enumerate(text.steps):
                if step[0] == "read":
                    told = [f"{'first' if row[1] == -1 else row[1]} {row[2]}" for row in finds(text)
                            if row[0] == k and row[2] != "never"]
                    self.assertEqual(desk.say(f"find {k}"), ", ".join(told) or "none")
                else:
                    self.raises(NoStep, desk, f"find {k}", index=k)
            self.assertEqual(desk.text, text)


class Desks(Checks):
    def test_two_side_by_side(self):
        one, other = Desk(), Desk()
        one.say("pointer p")
        self.assertEqual((one.say("note"), other.say("note")), ("pointer p", "empty"))
        other.say("pointer q")
        other.say("blank 1 q+0")
        one.say("undo")
        self.assertEqual((one.text, other.text), (Text(), text_of("q", "blank 1 q+0")))
        self.raises(NothingDone, one, "undo")
        self.assertEqual(other.say("undo"), "ok")

    def test_the_text_each_time(self):
        desk = desk_of(text_of("p q", *LINES))
        for _ in range(3):
            self.assertEqual(desk.text, text_of("p q", *LINES))
            self.assertIs(type(desk.text), Text)
        kept = desk.text
        desk.say("undo")
        self.assertEqual(kept, text_of("p q", *LINES))
        self.assertEqual(desk.text, text_of("p q", *LINES[:-1]))

    def test_the_property_is_not_assigned(self):
        desk = Desk()
        with self.assertRaises(AttributeError):
            desk.text = text_of("p")
        self.assertEqual(desk.text, Text())

    def test_many_commands(self):
        desk, texts = Desk(), [Text()]
        dice = random.Random(7)
        commands = ["place a half2", "pointer p", "pointer q", "blank 1 p+0", "write c1 p+0 1", "read x c1 q+0",
                    "read y c1 p+0", "tell x", "change 0", "change 1", "change 2", "shorten", "undo", "undo", "note",
                    "dead", "find 0", "order 1"]
        for _ in range(400):
            command = dice.choice(commands)
            before = desk.text
            try:
                answer = desk.say(command)
            except (BadText, NoStep, NoOrder, Turned, NothingDone) as error:
                self.assertEqual(desk.text, before)
                self.assertEqual(isinstance(error, NothingDone), command == "undo" and len(texts) == 1)
                continue
            if command == "undo":
                texts.pop()
            elif answer == "ok":
                texts.append(desk.text)
            self.assertEqual(desk.text, texts[-1])


if __name__ == "__main__":
    unittest.main()
