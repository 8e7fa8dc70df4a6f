"""The errors of the program. Each attribute has the name of the parameter that sets it."""


class DialError(ValueError):
    """The base class of all errors of the program."""


class InvalidShape(DialError):
    """A shape breaks a rule or has too many plans."""


class WrongShape(DialError):
    """A shape is not the one that is needed here."""


class InvalidPlan(DialError):
    """A plan does not fit the shape."""


class NotBelow(DialError):
    """A table that is to be subtracted does not lie below the other one."""


class InvalidShare(DialError):
    """The bottom of a share is below 1."""


class InvalidShort(DialError):
    """Numbers are not the short form of a table."""


class InvalidSystem(DialError):
    """Rows, limits and gains are no straight system, or a turn is not possible."""


class OutOfStretch(DialError):
    """A number lies outside of the stretch of a dial."""


class InvalidWay(DialError):
    """A tuple is not one of the eight ways, or the way keeps an entry that is to be lost."""


class InvalidHalf(DialError):
    """States and kinds are no half, or there is no draw of halves with a number."""


class InvalidWiring(DialError):
    """Trees do not fit their boxes or each other."""


class InvalidWorld(DialError):
    """A round of a schedule does not fit the draws or the shape."""


class InvalidTable(DialError):
    """`row` is the first wrong row, or -1 for a wrong whole or number of rows."""

    def __init__(self, row):
        self.row = row


class InvalidRating(DialError):
    """`row` is the first wrong row, or -1 for a wrong number of rows."""

    def __init__(self, row):
        self.row = row


class InvalidMixture(DialError):
    """`at` is the index of the first wrong pair."""

    def __init__(self, at):
        self.at = at


class TellsAcross(DialError):
    """`leak` is the first leak of a table that is not quiet."""

    def __init__(self, leak):
        self.leak = leak


class Endless(DialError):
    """`ray` shows that the gain of a system grows without end."""

    def __init__(self, ray):
        self.ray = ray


class InvalidAsked(DialError):
    """`at` is the index of the first wrong pair or kind, or -1 for a wrong number of kinds."""

    def __init__(self, at):
        self.at = at


class InvalidBits(DialError):
    """`row` is the first wrong row of a matrix, or -1 for a wrong number of rows."""

    def __init__(self, row):
        self.row = row


class InvalidLog(DialError):
    """`hand` has the first wrong note, and `at` is its index in the log of this hand."""

    def __init__(self, hand, at):
        self.hand = hand
        self.at = at


class InvalidText(DialError):
    """`line` is the number of the first wrong line, counted from 1."""

    def __init__(self, line):
        self.line = line
