"""Memory: what the bytes bear while steps are done, and what was asked of the bytes at first."""

from lastkind.words import size_of

# Stands in the place of the index of a write if a thing, or what a byte bears, came in.
FIRST = -1


class Asks:
    """What was asked of the bytes at first: that they bear the places of things that came in."""

    def __init__(self):
        self.kinds = {}
        # From each ask to the ask itself, or to an earlier one that is for the same thing.
        self.earlier = {}
        # From each byte that was asked for to its place in the thing, and to one of its asks.
        self.asked = {}

    def earliest(self, index):
        """The index of the first ask for the thing for which the ask with this index is."""
        while self.earlier[index] != index:
            index = self.earlier[index]
        return index

    def clashes(self, kind, row):
        """Whether this row of bytes cannot bear one thing of this kind, after what was asked before."""
        if len(set(row)) < len(row):
            return True
        for place, byte in enumerate(row):
            if byte in self.asked:
                known, index = self.asked[byte]
                if known != place or self.kinds[index] != kind:
                    return True
        return False

    def put(self, index, kind, row):
        """Asks that this row of bytes bears one thing of this kind."""
        joined = [self.earliest(self.asked[byte][1]) for byte in row if byte in self.asked]
        first = min([index, *joined])
        for ask in [index, *joined]:
            self.earlier[ask] = first
        self.kinds[index] = kind
        for place, byte in enumerate(row):
            self.asked[byte] = (place, index)

    def place_at(self, byte):
        """What a byte bore at first, as (kind, place, first ask for the thing); None if it was not asked."""
        if byte not in self.asked:
            return None
        place, index = self.asked[byte]
        return self.kinds[index], place, self.earliest(index)


class Memory:
    """One row of bytes, each with a number of its own.

    What a byte bears is a tuple: (index, place) for a place of the thing that the write with this
    index made, (FIRST, byte) for what this byte bore at first; or None for nothing.
    """

    def __init__(self, owners):
        # From each byte of a place to the first byte and the kind of that place.
        self.owners = owners
        self.borne = {}
        # From each write to the kind of the thing that it made, and to all places of this thing.
        self.kinds = {}
        self.things = {}
        # From each read, and each copy onto a place, to the write whose thing it found, or FIRST.
        self.sources = {}
        self.asks = Asks()

    def owner_of(self, row):
        """The first byte and the kind of the place that has a byte of this row; None if none has."""
        for byte in row:
            if byte in self.owners:
                return self.owners[byte]
        return None

    def load_of(self, row):
        """What the bytes of this row bear."""
        return [self.borne[byte] if byte in self.borne else (FIRST, byte) for byte in row]

    def lay(self, row, load):
        """Lays what is told into the bytes of this row."""
        for byte, token in zip(row, load):
            self.borne[byte] = token

    def seek(self, index, kind, row):
        """Finds a thing of this kind in the row, or asks for it; the reason if that is unlawful."""
        load = self.load_of(row)
        if None in load:
            return "blank"
        if all([source == FIRST for source, _ in load]):
            return self.seek_first(index, kind, [byte for _, byte in load])
        source = load[0][0]
        if source == FIRST or load != self.things[source]:
            return "torn"
        if self.kinds[source] != kind:
            return "kind"
        self.sources[index] = source
        return None

    def seek_first(self, index, kind, row):
        """Asks for a thing that these bytes bore at first; the reason if that is unlawful."""
        if self.asks.clashes(kind, row):
            return "clash"
        self.asks.put(index, kind, row)
        self.sources[index] = FIRST
        return None

    def read_thing(self, index, kind, row):
        """Reads this row; the reason if that is unlawful."""
        if self.owner_of(row) not in (None, (row[0], kind)):
            return "place"
        return self.seek(index, kind, row)

    def write_thing(self, index, kind, row):
        """Writes a new thing into this row; the reason if that is unlawful."""
        if self.owner_of(row) not in (None, (row[0], kind)):
            return "place"
        self.kinds[index] = kind
        self.things[index] = [(index, place) for place in range(size_of(kind))]
        self.lay(row, self.things[index])
        return None

    def copy_bytes(self, index, target, row):
        """Copies what this row bears into the target; the reason if that is unlawful."""
        owner = self.owner_of(target)
        reason = None
        if owner is not None:
            first, kind = owner
            if (first, size_of(kind)) != (target[0], len(target)):
                return "place"
            reason = self.seek(index, kind, row)
        if reason is None:
            self.lay(target, self.load_of(row))
        return reason

    def blank_bytes(self, row):
        """Makes the bytes of this row bear nothing; the reason if that is unlawful."""
        if self.owner_of(row) is not None:
            return "place"
        self.lay(row, [None for _ in row])
        return None
