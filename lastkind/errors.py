"""The errors that the package raises."""


class KindError(ValueError):
    """The base of all errors of the package except NoStep."""


class BadText(KindError):
    """A part of a text is wrong: its entry at the index, or the whole part if the index is None."""

    def __init__(self, part, index):
        self.part = part
        self.index = index


class BadNote(KindError):
    """A string is no note: the line with this index is the first that cannot stand there."""

    def __init__(self, line):
        self.line = line


class NoLaying(KindError):
    """What was given is no laying of the text."""

    def __init__(self, laying):
        self.laying = laying


class NoOrder(KindError):
    """What was given is no order of the text, or no number of one."""

    def __init__(self, order):
        self.order = order


class Turned(KindError):
    """An order turns a pair of steps around that binds."""

    def __init__(self, pair):
        self.pair = pair


class BadLoop(KindError):
    """A part of a loop is wrong."""

    def __init__(self, part):
        self.part = part


class BadCommand(KindError):
    """What was said to a desk is none of its commands."""

    def __init__(self, command):
        self.command = command


class NothingDone(KindError):
    """There is nothing that could be undone."""


class NoStep(IndexError):
    """There is no such step. It is no KindError, so that it is caught as a wrong index is."""

    def __init__(self, index):
        self.index = index
