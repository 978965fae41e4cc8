"""Changes of a book: a moment is learnt, a deal is put ahead of another one, a land is split into two."""

from letdays.books import Book
from letdays.checks import check_dates_with, check_deal_of, check_integer
from letdays.closing import span
from letdays.deals import deal_like
from letdays.errors import InvalidNames, SameDeal, UnknownLand, UnknownMoment
from letdays.networks import dates_in
from letdays.together import putting_ahead
from letdays.values import FIXED, is_list, is_name


def check_moment_in(book, moment):
    """Raise UnknownMoment unless this is a moment of the book's calendar; `day` is none."""
    if not is_name(moment) or moment not in book.calendar.moments():
        raise UnknownMoment(moment)


def learnt(book, moment, day):
    """The book in which the moment is known to be on the day."""
    check_moment_in(book, moment)
    check_integer(day)
    check_dates_with(book, [(moment, FIXED, day), (FIXED, moment, -day)])
    return book.with_calendar(book.calendar.known(moment, day))


def days_of(book, moment):
    """The least and the greatest day of the moment, in any dates; None where there is none."""
    check_moment_in(book, moment)
    return span(book.full(), (moment, 0), (FIXED, 0))


def check_two_deals(book, one, other):
    """Raise UnknownDeal unless both are names of deals of the book, and SameDeal if they are the same."""
    check_deal_of(book, one)
    check_deal_of(book, other)
    if one == other:
        raise SameDeal(one)


def put_ahead(book, one, other):
    """The book in which the end of one deal is ahead of the begin of the other one."""
    check_two_deals(book, one, other)
    clause = putting_ahead(book, one, other)
    check_dates_with(book, [clause])
    # The days between an end and a begin of one moment are the same in all dates.
    if clause[0] == clause[1]:
        return book
    return book.with_calendar(book.calendar.with_clause(clause))


def can_be_ahead(book, one, other):
    """Whether in some dates the end of one deal is ahead of the begin of the other one."""
    check_two_deals(book, one, other)
    clauses = book.clauses() + [putting_ahead(book, one, other)]
    return dates_in(book.calendar.moments(), clauses) is not None


def split_land(book, land, parts):
    """The book in which each deal that has the land has both parts in its place."""
    lands = sorted(set([old for deal in book for old in deal.lands]))
    if not is_name(land) or land not in lands:
        raise UnknownLand(land)
    check_parts(lands, parts)
    return Book(book.calendar, [with_split(deal, land, parts) for deal in book])


def check_parts(lands, parts):
    """Raise InvalidNames unless these are two different NAMES, neither of them one of these lands, in a list."""
    if not is_list(parts) or len(parts) != 2:
        raise InvalidNames(None)
    for at in range(len(parts)):
        if not is_name(parts[at]) or parts[at] in lands or parts[at] in parts[:at]:
            raise InvalidNames(at)


def with_split(deal, land, parts):
    """The deal with both parts in the place of the land, if it has it."""
    if land not in deal.lands:
        return deal
    kept = [old for old in deal.lands if old != land]
    return deal_like(deal, kept + list(parts), deal.begin, deal.end)
