"""The errors of the package: four kinds, and the classes of each."""


class DaysError(ValueError):
    """An error of the package: a value that is not what the document asks for."""


class InvalidName(DaysError):
    """No NAME."""

    def __init__(self, value):
        self.value = value


class InvalidPoint(DaysError):
    """No POINT that may stand here."""

    def __init__(self, value):
        self.value = value


class InvalidNumber(DaysError):
    """No INTEGER that may stand here."""

    def __init__(self, value):
        self.value = value


class InvalidMoment(DaysError):
    """No moment that may stand here."""

    def __init__(self, value):
        self.value = value


class InvalidDates(DaysError):
    """No dates of the calendar, deal or book."""

    def __init__(self, value):
        self.value = value


class InvalidDeal(DaysError):
    """No Deal that may stand here."""

    def __init__(self, value):
        self.value = value


class InvalidCell(DaysError):
    """No tuple of three NAMES."""

    def __init__(self, value):
        self.value = value


class InvalidCalendar(DaysError):
    """No Calendar."""

    def __init__(self, value):
        self.value = value


class InvalidPaper(DaysError):
    """No paper that may stand here."""

    def __init__(self, value):
        self.value = value


class InvalidRights(DaysError):
    """No rights of the book."""

    def __init__(self, value):
        self.value = value


class InvalidWindow(DaysError):
    """No Window."""

    def __init__(self, value):
        self.value = value


class InvalidClaim(DaysError):
    """No claim."""

    def __init__(self, value):
        self.value = value


class InvalidCommand(DaysError):
    """No command of a form that a desk knows."""

    def __init__(self, value):
        self.value = value


class InvalidMoments(DaysError):
    """A list of moments that is wrong at a position, or no list."""

    def __init__(self, position):
        self.position = position


class InvalidClauses(DaysError):
    """A list of clauses that is wrong at a position, or no list."""

    def __init__(self, position):
        self.position = position


class InvalidNames(DaysError):
    """A list of names that is wrong at a position, or no list."""

    def __init__(self, position):
        self.position = position


class InvalidDeals(DaysError):
    """A list of deals that is wrong at a position, or no list."""

    def __init__(self, position):
        self.position = position


class InvalidStretches(DaysError):
    """A list of stretches that is wrong at a position, or no list."""

    def __init__(self, position):
        self.position = position


class InvalidShowings(DaysError):
    """A list of showings that is wrong at a position, or no list."""

    def __init__(self, position):
        self.position = position


class InvalidLots(DaysError):
    """A list of lots that is wrong at a position, or no list."""

    def __init__(self, position):
        self.position = position


class InvalidText(DaysError):
    """A text with a line that cannot stand there."""

    def __init__(self, line):
        self.line = line


class MissingError(LookupError):
    """An error of the package: something that is not there."""


class UnknownDeal(MissingError):
    """No name of a deal of the book."""

    def __init__(self, value):
        self.value = value


class UnknownMoment(MissingError):
    """No moment of the book's calendar."""

    def __init__(self, value):
        self.value = value


class UnknownHouse(MissingError):
    """No house that is there."""

    def __init__(self, value):
        self.value = value


class UnknownLand(MissingError):
    """No land of a deal of the book."""

    def __init__(self, value):
        self.value = value


class StateError(RuntimeError):
    """An error of the package: something that cannot be done as things are."""


class NoDates(StateError):
    """No dates keep all clauses."""


class NameTaken(StateError):
    """A name that stands already."""

    def __init__(self, value):
        self.value = value


class SameDeal(StateError):
    """One deal where two are asked for."""

    def __init__(self, value):
        self.value = value


class OtherMoments(StateError):
    """Two calendars whose moments are not the same."""

    def __init__(self, one, other):
        self.one = one
        self.other = other


class NotSafe(StateError):
    """A book that is not safe, and two of its deals that show it."""

    def __init__(self, one, other):
        self.one = one
        self.other = other


class NotTrue(StateError):
    """A claim that is not true."""


class NothingToUndo(StateError):
    """No command that could be taken back."""


class CommandFailed(StateError):
    """One of several commands that raised an error."""

    def __init__(self, position):
        self.position = position


class LimitError(ArithmeticError):
    """An error of the package: more than the document lets."""


class TooMany(LimitError):
    """More of something than its limit."""

    def __init__(self, what, limit):
        self.what = what
        self.limit = limit
