"""Layings, runs and finds worked out by trying, independently of the package, and texts to try."""

import itertools
import random

from lastkind.texts import Text



def spans(step):
    """The bytes that a step uses, as (name, offset, number of bytes); what it writes stands first."""
    word = step[0]
    if word == "read":
        return [(step[3], step[4], int(step[2][-1]))]
    if word == "write":
        return [(step[2], step[3], int(step[1][-1]))]
    if word == "copy":
        return [(step[2], step[3], step[1]), (step[4], step[5], step[1])]
    return [(step[2], step[3], step[1])] if word == "blank" else []


def offsets(text):
    """The bytes of each name, in the order of the names."""
    found = {name: set(range(int(kind[-1]))) for name, kind in text.places}
    found.update({name: set() for name in text.pointers})
    for step in text.steps:
        for name, first, many in spans(step):
            found[name].update(range(first, first + many))
    return found


def obeys(text, laying):
    """Whether a tuple of entries of the right form is a laying: the words of [9], one by one."""
    used = offsets(text)
    names = list(used)
    at = {}
    for name, entry in zip(names, laying):
        if entry is not None and (entry[0] not in at or laying[names.index(entry[0])] is not None):
            return False
        at[name] = (name, 0) if entry is None else entry
    bytes_of = {name: {(at[name][0], at[name][1] + offset) for offset in used[name]} for name in names}
    heap = {name: {name} for name in names}
    for _ in names:
        for one, other in itertools.permutations(names, 2):
            if bytes_of[one] & bytes_of[other]:
                heap[one] |= heap[other]
    places = {name for name, _ in text.places}
    return (all(heap[name] == {other for other in names if at[other][0] == at[name][0]} for name in names)
            and all(len(heap[name] & places) <= 1 for name in names))


def rank(laying):
    told = [entry for entry in laying if entry is not None]
    return (len(told), sum(abs(entry[1]) for entry in told),
            tuple(() if entry is None else entry for entry in laying))


def layings(text, distances):
    """All layings in order, found among all tuples with these distances."""
    names = list(offsets(text))
    rows = [()]
    for k in range(len(names)):
        entries = [None] + [(first, d) for first in names[:k] for d in distances]
        rows = [(*row, entry) for row in rows for entry in entries]
    return sorted((row for row in rows if obeys(text, row)), key=rank)


class Unlawful(Exception):
    pass


class Caller:
    """A caller of a text under a laying that chooses what a byte bears at first when it is asked."""

    def __init__(self, text, laying, first=None):
        names = list(offsets(text))
        self.text = text
        self.at = {name: (name, 0) if entry is None else entry for name, entry in zip(names, laying)}
        self.blocks = {name: (kind, self.row(name, 0, int(kind[-1]))) for name, kind in text.places}
        self.first = first or {}
        self.borne = {}
        self.index = 0
        self.found = {}

    def row(self, name, offset, many):
        heap, distance = self.at[name]
        return [(heap, distance + offset + k) for k in range(many)]

    def copied(self, more):
        other = Caller.__new__(Caller)
        other.__dict__.update(self.__dict__)
        other.first, other.borne, other.found = {**self.first, **more}, dict(self.borne), dict(self.found)
        return other

    def load(self, byte):
        """What a byte bears: None, (thing, place), or ("unknown", byte) if it is not yet chosen."""
        load = self.borne.get(byte, ("unknown", byte))
        if load is not None and load[0] == "unknown" and load[1] in self.first:
            return self.first[load[1]]
        return load

    def unknown(self, row):
        loads = [self.load(byte) for byte in row]
        return sorted({load[1] for load in loads if load is not None and load[0] == "unknown"})

    def find(self, kind, row):
        loads = [self.load(byte) for byte in row]
        thing = loads[0] and loads[0][0]
        if thing is None or thing[1] != kind or loads != [(thing, k) for k in range(int(kind[-1]))]:
            raise Unlawful
        self.found[self.index] = thing

    def wanted(self):
        """The kind and the row of the thing that the next step must find; None if it needs none."""
        step = self.text.steps[self.index]
        if step[0] == "read":
            return step[2], self.row(*spans(step)[0])
        if step[0] == "copy":
            target, source = [self.row(*span) for span in spans(step)]
            for kind, block in self.blocks.values():
                if block == target:
                    return kind, source
        return None

    def check_places(self):
        step = self.text.steps[self.index]
        if step[0] == "tell":
            return
        row = self.row(*spans(step)[0])
        kinds = {"read": step[2], "write": step[1]}
        for kind, block in self.blocks.values():
            if set(block) & set(row):
                if block != row or step[0] == "blank" or kinds.get(step[0], kind) != kind:
                    raise Unlawful

    def step(self):
        self.check_places()
        if self.wanted():
            self.find(*self.wanted())
        step = self.text.steps[self.index]
        if step[0] == "write":
            thing = ("made", step[1], self.index)
            self.borne.update({byte: (thing, k) for k, byte in enumerate(self.row(*spans(step)[0]))})
        if step[0] == "copy":
            target, source = [self.row(*span) for span in spans(step)]
            loads = [self.borne.get(byte, ("unknown", byte)) for byte in source]
            self.borne.update(zip(target, loads))
        if step[0] == "blank":
            self.borne.update({byte: None for byte in self.row(*spans(step)[0])})
        self.index += 1

    def worth(self, told):
        if isinstance(told, int):
            return told
        thing = self.found[[step[1] if step[0] == "read" else None for step in self.text.steps].index(told)]
        return self.worth(self.text.steps[thing[2]][-1]) if thing[0] == "made" else thing

    def told(self):
        return [self.worth(step[1]) for step in self.text.steps[:self.index] if step[0] == "tell"]

    def end(self):
        end = {}
        for name, used in offsets(self.text).items():
            for offset in used:
                byte = self.row(name, offset, 1)[0]
                load = self.load(byte)
                if load is None or load[0] == "unknown":
                    end[byte] = load
                else:
                    thing, place = load
                    made = thing[0] == "made"
                    end[byte] = (thing[1], place, self.worth(self.text.steps[thing[2]][-1]) if made else thing)
        return end


def callers(text, laying):
    """All lawful callers, and the greatest index of a step that some caller does not get behind.

    Each caller has chosen only what the steps ask. Things that came in are ("came", kind, number).
    """
    wanted = [step[2] for step in text.steps if step[0] == "read"]
    wanted += [kind for _, kind in text.places for step in text.steps if step[0] == "copy"]
    loads = [None]
    for number, kind in enumerate(wanted):
        loads += [(("came", kind, number), place) for place in range(int(kind[-1]))]
    lawful, furthest, left = [], -1, [Caller(text, laying)]
    while left:
        caller = left.pop()
        if caller.index == len(text.steps):
            lawful.append(caller)
            continue
        wants = caller.wanted()
        unknown = caller.unknown(wants[1]) if wants else []
        if unknown:
            left += [caller.copied({unknown[0]: load}) for load in loads if fits(wants, load)]
            furthest = max(furthest, caller.index)
            continue
        try:
            caller.step()
            left.append(caller)
        except Unlawful:
            furthest = max(furthest, caller.index)
    return lawful, furthest


def fits(wants, load):
    """Whether a byte that is asked for a thing may bear this; what is left out is unlawful at once."""
    return load is not None and load[0][1] == wants[0]


def agrees(pairs):
    """Whether each told value of a run stands for one value of a caller: things that came in by index."""
    meant = {}
    for told, real in pairs:
        if isinstance(told, tuple) and told[0] == "first" and isinstance(told[1], int):
            if not isinstance(real, tuple) or real[0] != "came" or meant.setdefault(told, real) != real:
                return False
        elif told != real:
            return False
    return True


WORDS = ("read", "read", "write", "write", "copy", "blank", "tell")


def made_text(seed, places=1, pointers=2, steps=5, width=3, kinds=("c1", "half2", "pair2"), words=WORDS):
    """A text that depends on the seed alone."""
    dice = random.Random(seed)
    names = ["p", "q", "r"][:dice.randint(min(1, pointers), pointers)]
    blocks = [(name, dice.choice(kinds)) for name in ["a", "b"][:dice.randint(0, places)]]
    all_names = [name for name, _ in blocks] + names
    text = Text(tuple(blocks), tuple(names))
    reads = 0
    while all_names and len(text) < steps:
        word = dice.choice(words)
        kind, name, other = dice.choice(kinds), dice.choice(all_names), dice.choice(all_names)
        places_by_name = dict(blocks)
        if name in places_by_name and dice.random() < 0.7:
            kind, offset, many = places_by_name[name], 0, int(places_by_name[name][-1])
        else:
            many = dice.randint(1, width)
            offset = dice.randint(0, max(0, width - (int(kind[-1]) if word in ("read", "write") else many)))
        source = dice.randint(0, max(0, width - many))
        value = dice.choice([7, -3, 0] + [f"x{k}" for k in range(reads)])
        step = {
            "read": ("read", f"x{reads}", kind, name, offset),
            "write": ("write", kind, name, offset, value),
            "copy": ("copy", many, name, offset, other, source),
            "blank": ("blank", many, name, offset),
            "tell": ("tell", f"x{dice.randrange(max(1, reads))}"),
        }[word]
        if word != "tell" or reads:
            text = text.with_step(step)
            reads += word == "read"
    return text
