"""The errors of the package: each stands directly under FallenError."""


class FallenError(ValueError):
    """The base of all errors of this package."""


class NoPattern(FallenError):
    """What should be a pattern is none; at counts the signs that could begin one."""

    def __init__(self, at):
        self.at = at


class Unlike(FallenError):
    """The sizes, or the stores, differ."""


class NoBit(FallenError):
    """There is no bit, or no block, of this number."""


class NoWrite(FallenError):
    """This is no write from the pattern."""


class Rise(FallenError):
    """A fallen bit would have to rise."""


class NotInBox(FallenError):
    """The armed failure cannot be left by this write."""


class Cut(FallenError):
    """The power failed within a write; found is the pattern that stands."""

    def __init__(self, found):
        self.found = found


class NoStore(FallenError):
    """A part of a store is wrong at the item at, or as a whole if at is None."""

    def __init__(self, part, at):
        self.part = part
        self.at = at


class NoDriver(FallenError):
    """The rows of a driver are wrong at the row at, or as a whole if at is None."""

    def __init__(self, at):
        self.at = at


class NoState(FallenError):
    """This is no state, or no target of the present one."""


class NoEvent(FallenError):
    """The event with the number at cannot come there."""

    def __init__(self, at):
        self.at = at


class NoOrder(FallenError):
    """This is no order of the bits."""


class TooMany(FallenError):
    """There are too many bits to list all patterns or writes."""


class NoField(FallenError):
    """A part of a field, or of a list of fields, is wrong."""

    def __init__(self, part):
        self.part = part


class NoRoom(FallenError):
    """No bit is left for a change."""


class Stranded(FallenError):
    """A change cannot go on from the pattern found."""

    def __init__(self, found):
        self.found = found


class Foreign(FallenError):
    """The pattern found is not one that a keeper leaves behind."""

    def __init__(self, found):
        self.found = found


class NoText(FallenError):
    """A text is not written by the rules from its line on."""

    def __init__(self, line):
        self.line = line


class NoRow(FallenError):
    """This is no line of the desk."""
