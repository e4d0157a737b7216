"""Pairs, orders and standing worked out byte by byte and caller by caller, independently of the package."""

import itertools
import types

import oracle
from lastkind.layings import layings
from lastkind.texts import Text


def lawful(text):
    """The lawful layings, found by trying callers. (What all layings are, is tested elsewhere.)"""
    return [laying for laying in layings(text) if oracle.callers(text, laying)[0]]


def lawful_texts(many, **form):
    """So many texts of this form that have steps and a lawful laying."""
    found, seed = [], 0
    while len(found) < many:
        text = oracle.made_text(seed, **form)
        if len(text) and lawful(text):
            found.append(text)
        seed += 1
    return found


def touched(text, laying):
    """For each step: the bytes that it takes up, and those that it writes."""
    caller = oracle.Caller(text, laying)
    rows = []
    for step in text.steps:
        spans = [caller.row(*span) for span in oracle.spans(step)]
        if step[0] == "read":
            rows.append((spans[0], []))
        elif step[0] == "copy":
            rows.append((spans[1], spans[0]))
        else:
            rows.append(([], spans[0] if spans else []))
    return rows


def meet(rows, i, j):
    (up, down), (other_up, other_down) = rows[i], rows[j]
    return bool(set(down) & set(other_up + other_down) or set(other_down) & set(up))


def meets(text):
    found = {}
    for laying in lawful(text):
        rows = touched(text, laying)
        for i, j in itertools.combinations(range(len(text)), 2):
            if meet(rows, i, j):
                found.setdefault((i, j), laying)
    return [(i, j, found[(i, j)]) for i, j in sorted(found)]


def needs(text):
    """The words of [15] for needed pairs."""
    found = []
    for (i, step), (j, later) in itertools.combinations(enumerate(text.steps), 2):
        if step[0] == "read" and later[0] in ("write", "tell") and later[-1] == step[1]:
            found.append((i, j))
        if step[0] == later[0] == "tell":
            found.append((i, j))
    return found


def history(rows, order):
    """What lies in each byte that a step takes up, as the step that laid it there; and who writes each byte."""
    laid, taken, writers = {}, {}, {}
    for k in order:
        up, down = rows[k]
        taken[k] = [laid.get(byte) for byte in up]
        for byte in down:
            laid[byte] = k
            writers.setdefault(byte, []).append(k)
    return taken, writers


def is_right(text, order, rows_of_all):
    """The words of [16]. The rows are those of `touched` for each lawful laying."""
    at = {k: order.index(k) for k in order}
    if any(at[i] > at[j] for i, j in needs(text)):
        return False
    own = tuple(range(len(text)))
    return all(history(rows, order) == history(rows, own) for rows in rows_of_all)


def right_orders(text):
    rows = [touched(text, laying) for laying in lawful(text)]
    return [order for order in itertools.permutations(range(len(text))) if is_right(text, order, rows)]


def both(text, other):
    """Something with the names of two texts and the steps of both, more than one text may have."""
    return types.SimpleNamespace(places=text.places, pointers=text.pointers, steps=text.steps + other.steps)


def layings_of_both(text, other):
    """All layings of both together, in order."""
    rows = [()]
    names = list(oracle.offsets(text))
    for k in range(len(names)):
        entries = [None] + [(first, d) for first in names[:k] for d in range(-21, 22)]
        rows = [(*row, entry) for row in rows for entry in entries]
    return sorted((row for row in rows if oracle.obeys(both(text, other), row)), key=oracle.rank)


def ended(caller, used):
    """What the bytes bear: None, (kind, place, value), or ("unknown", byte)."""
    end = {}
    for byte in used:
        load = caller.load(byte)
        if load is None or load[0] == "unknown":
            end[byte] = load
        else:
            thing, place = load
            value = caller.worth(caller.text.steps[thing[2]][-1]) if thing[0] == "made" else thing
            end[byte] = (thing[1], place, value)
    return end


def first_difference(text, other, laying):
    """The first difference that some lawful caller of the text shows under this laying, caller by caller."""
    words = set()
    for caller in oracle.callers(text, laying)[0]:
        again = oracle.Caller(other, laying, dict(caller.first))
        try:
            while again.index < len(other):
                wants = again.wanted()
                # A byte of which the text's caller chose nothing may as well bear nothing.
                if wants and again.unknown(wants[1]):
                    raise oracle.Unlawful
                again.step()
        except oracle.Unlawful:
            return "unlawful"
        used = [byte for name, rows in oracle.offsets(both(text, other)).items()
                for offset in rows for byte in caller.row(name, offset, 1)]
        if caller.told() != again.told():
            words.add("told")
        elif ended(caller, used) != ended(again, used):
            words.add("end")
    return max(words, default=None)


def stands(text, other):
    for laying in layings_of_both(text, other):
        word = first_difference(text, other, laying)
        if word:
            return (laying, word)
    return None


class Sights:
    """What is seen under one lawful laying: the words of [20], byte by byte."""

    def __init__(self, text, laying):
        caller = oracle.Caller(text, laying)
        self.rows = touched(text, laying)
        self.blocks = {byte for _, block in caller.blocks.values() for byte in block}
        self.words = [step[0] for step in text.steps]
        self.bytes = {byte for up, down in self.rows for byte in up + down}

    def sees(self, k, byte):
        up, down = self.rows[k]
        if byte not in up:
            return False
        if self.words[k] == "read" or set(down) & self.blocks:
            return True
        return any(self.is_seen(target, k) for target, source in zip(down, up) if source == byte)

    def is_seen(self, byte, k):
        """Whether what the step k lays into this byte is seen."""
        for later in range(k + 1, len(self.rows)):
            if self.sees(later, byte):
                return True
            if byte in self.rows[later][1]:
                return False
        return True

    def tied(self, i, j, byte):
        writes = [byte in down for _, down in self.rows]
        sees = [self.sees(k, byte) for k in range(len(self.rows))]
        if sees[i] and writes[j] or writes[i] and sees[j]:
            return True
        if not (writes[i] and writes[j]) or any(sees[i + 1:j]):
            return False
        after = [k for k in range(j + 1, len(self.rows)) if sees[k]] + [len(self.rows)]
        return not any(writes[j + 1:after[0]])


def tied(text):
    found = set()
    for laying in lawful(text):
        sights = Sights(text, laying)
        for i, j in itertools.combinations(range(len(text)), 2):
            if any(sights.tied(i, j, byte) for byte in sights.bytes):
                found.add((i, j))
    return sorted(found)


def dead(text):
    found = [k for k, step in enumerate(text.steps) if step[0] in ("write", "copy", "blank")]
    for laying in lawful(text):
        sights = Sights(text, laying)
        found = [k for k in found if not any(sights.is_seen(byte, k) for byte in sights.rows[k][1])]
    return found


def shortened(text):
    while dead(text):
        last = dead(text)[-1]
        text = Text(text.places, text.pointers, text.steps[:last] + text.steps[last + 1:])
    return text


def looked_at(sights, order):
    """In each byte that a step sees in the text, and in each byte at the end: which step laid there."""
    laid, found = {}, {}
    for k in order:
        up, down = sights.rows[k]
        found.update({(k, byte): laid.get(byte) for byte in set(up) if sights.sees(k, byte)})
        laid.update({byte: k for byte in down})
    return found, laid


def reached(text, keep_needed):
    """The orders that are reached by changes of neighbours that nobody sees, and that keep each needed pair.

    If keep_needed is True, each order on the way keeps these, too.
    """
    sights = [Sights(text, laying) for laying in lawful(text)]
    needed = needs(text)

    def keeps(order):
        return all(order.index(i) < order.index(j) for i, j in needed)

    views = {}

    def view(order):
        if order not in views:
            views[order] = [looked_at(sight, order) for sight in sights]
        return views[order]

    begin = tuple(range(len(text)))
    found, left = {begin}, [begin]
    while left:
        order = left.pop()
        for k in range(len(order) - 1):
            other = (*order[:k], order[k + 1], order[k], *order[k + 2:])
            if other not in found and view(other) == view(order) and (keeps(other) or not keep_needed):
                found.add(other)
                left.append(other)
    return {order for order in found if keeps(order)}
