"""Checks that several files share: each raises the document's error for a parameter that is not valid."""

from letdays.errors import InvalidCell, InvalidDates, InvalidMoment, InvalidName, InvalidNames, InvalidNumber
from letdays.errors import InvalidPoint, NoDates, UnknownDeal
from letdays.networks import dates_in
from letdays.values import first_wrong_name, is_cell, is_count, is_integer, is_list, is_moment_of, is_name
from letdays.values import is_point_of


def check_integer(value):
    """Raise InvalidNumber unless this is an INTEGER."""
    if not is_integer(value):
        raise InvalidNumber(value)


def check_count(value):
    """Raise InvalidNumber unless this is a COUNT."""
    if not is_count(value):
        raise InvalidNumber(value)


def check_position(position, many):
    """Raise InvalidNumber unless this is the position of one of so many."""
    if not is_integer(position) or not 0 <= position < many:
        raise InvalidNumber(position)


def check_name(value):
    """Raise InvalidName unless this is a NAME."""
    if not is_name(value):
        raise InvalidName(value)


def check_some_names(names):
    """Raise InvalidNames unless this is a list of one or more different NAMES."""
    if not is_list(names) or len(names) == 0:
        raise InvalidNames(None)
    wrong = first_wrong_name(names)
    if wrong is not None:
        raise InvalidNames(wrong)


def check_cell(cell):
    """Raise InvalidCell unless this is a tuple of three NAMES."""
    if not is_cell(cell):
        raise InvalidCell(cell)


def check_moment(calendar, moment):
    """Raise InvalidMoment unless this is `day` or a moment of the calendar."""
    if not is_moment_of(moment, calendar.moments()):
        raise InvalidMoment(moment)


def check_point(calendar, point):
    """Raise InvalidPoint unless this is a point of `day` or of a moment of the calendar."""
    if not is_point_of(point, calendar.moments()):
        raise InvalidPoint(point)


def check_has_dates(calendar):
    """Raise NoDates unless some dates keep all clauses of the calendar."""
    if not calendar.has_dates():
        raise NoDates()


def check_deal_of(book, name):
    """Raise UnknownDeal unless this is the name of a deal of the book."""
    if name not in book:
        raise UnknownDeal(name)


def check_dates_of(book, dates):
    """Raise InvalidDates unless these are dates of the book."""
    if dates not in book.full():
        raise InvalidDates(dates)


def check_dates_with(book, clauses):
    """Raise NoDates unless some dates of the book keep these further clauses."""
    if dates_in(book.calendar.moments(), book.clauses() + clauses) is None:
        raise NoDates()


def check_names_of(book, names):
    """Raise InvalidNames unless these are different names of deals of the book in a list."""
    if not is_list(names):
        raise InvalidNames(None)
    for at in range(len(names)):
        if names[at] not in book or names[at] in names[:at]:
            raise InvalidNames(at)


def check_some_names_of(book, names):
    """Raise InvalidNames unless these are one or more different names of deals of the book in a list."""
    check_names_of(book, names)
    if len(names) == 0:
        raise InvalidNames(None)
