"""A desk: a text that is written, asked about and changed by commands."""

from lastkind.changes import exchanged
from lastkind.errors import BadCommand, NoStep, NothingDone
from lastkind.finds import finds
from lastkind.layings import layings
from lastkind.memory import FIRST
from lastkind.notes import write_text
from lastkind.orders import count_orders, order_at
from lastkind.pairs import binding
from lastkind.reading import number_in, step_in
from lastkind.texts import Text
from lastkind.unseen import dead, shortened
from lastkind.words import is_kind, is_name


def tell_note(text):
    """The answer to `note`."""
    note = write_text(text)
    return note.replace("\n", "; ") if note else "empty"


def tell_layings(text):
    """The answer to `layings`."""
    return f"{len(layings(text))} {len(layings(text, lawful=True))}"


def tell_pairs(text):
    """The answer to `pairs`."""
    return spaced([f"{i}-{j}" for i, j in binding(text)])


def tell_orders(text):
    """The answer to `orders`."""
    return str(count_orders(text))


def tell_dead(text):
    """The answer to `dead`."""
    return spaced([str(k) for k in dead(text)])


def tell_find(text, number):
    """The answer to `find` with this number."""
    # The text itself raises NoStep where it has no step at all.
    if text[number][0] != "read":
        raise NoStep(number)
    rows = [row for row in finds(text) if row[0] == number and row[2] != "never"]
    found = ["first " + word if source == FIRST else f"{source} {word}" for _, source, word, _ in rows]
    return ", ".join(found) if found else "none"


def tell_order(text, number):
    """The answer to `order` with this number."""
    return spaced([str(k) for k in order_at(text, number)])


# What answers each question: functions of the text, and those that also take a number.
QUESTIONS = {"note": tell_note, "layings": tell_layings, "pairs": tell_pairs, "orders": tell_orders, "dead": tell_dead}
NUMBERED = {"find": tell_find, "order": tell_order}


class Desk:
    """A desk with the empty text."""

    def __init__(self):
        self._text = Text()
        self._before = []

    @property
    def text(self):
        """The text on the desk."""
        return self._text

    def say(self, command):
        """The answer to a command, any value; BadCommand if it is none."""
        if not isinstance(command, str):
            raise BadCommand(command)
        answer = answer_to(self._text, command)
        if answer is not None:
            return answer
        if command == "undo":
            self._undo()
        else:
            text = changed(self._text, command)
            self._before.append(self._text)
            self._text = text
        return "ok"

    def _undo(self):
        """Lays the text back that was there before the last change; NothingDone if there is none."""
        if not self._before:
            raise NothingDone()
        self._text = self._before.pop()


def answer_to(text, command):
    """The answer to a question; None if the command is none."""
    if command in QUESTIONS:
        tell = QUESTIONS[command]
        return tell(text)
    word, _, rest = command.partition(" ")
    number = number_in(rest)
    if word in NUMBERED and is_index(number):
        tell_one = NUMBERED[word]
        return tell_one(text, number)
    return None


def changed(text, command):
    """The text to which a command changes this one; BadCommand if it changes none."""
    words = command.split(" ")
    step = step_in(command)
    if step is not None:
        return text.with_step(step)
    if words[0] == "place" and len(words) == 3 and is_name(words[1]) and is_kind(words[2]):
        return Text((*text.places, (words[1], words[2])), text.pointers, text.steps)
    if words[0] == "pointer" and len(words) == 2 and is_name(words[1]):
        return Text(text.places, (*text.pointers, words[1]), text.steps)
    if words[0] == "change" and len(words) == 2 and is_index(number_in(words[1])):
        return exchanged(text, number_in(words[1]))
    if command == "shorten":
        return shortened(text)
    raise BadCommand(command)


def is_index(number):
    """Whether a number that was read in a command is one from 0 on; None is what stands for none."""
    return number is not None and number >= 0


def spaced(words):
    """These words with spaces between; `none` if there are none."""
    return " ".join(words) if words else "none"
