"""Books: a calendar, and deals whose points are of its moments."""

from letdays.calendars import Calendar
from letdays.checks import check_cell, check_deal_of
from letdays.deals import Deal
from letdays.errors import InvalidCalendar, InvalidDeal, InvalidDeals, NameTaken, NoDates, TooMany
from letdays.errors import UnknownDeal, UnknownHouse
from letdays.networks import dates_in
from letdays.values import is_list, is_name

MOST_DEALS = 10


class Book:
    """A calendar and at most ten deals with different names; it has dates. It never changes."""

    def __init__(self, calendar, deals):
        if not isinstance(calendar, Calendar):
            raise InvalidCalendar(calendar)
        check_deals(calendar, deals)
        in_order = sorted(deals, key=lambda deal: deal.name)
        clauses = all_clauses(calendar, in_order)
        if dates_in(calendar.moments(), clauses) is None:
            raise NoDates()
        if len(in_order) > MOST_DEALS:
            raise TooMany("deals", MOST_DEALS)
        if len(clauses) > Calendar.MOST_CLAUSES:
            raise TooMany("clauses", Calendar.MOST_CLAUSES)
        self._calendar = calendar
        self._deals = tuple(in_order)
        self._clauses = tuple(clauses)

    @property
    def calendar(self):
        """The calendar, without the own clauses of the deals."""
        return self._calendar

    def names(self):
        """The sorted list of the names of its deals."""
        return [deal.name for deal in self._deals]

    def __len__(self):
        return len(self._deals)

    def __contains__(self, x):
        return is_name(x) and x in [deal.name for deal in self._deals]

    def __iter__(self):
        return iter(self._deals)

    def __getitem__(self, at):
        for deal in self._deals:
            if is_name(at) and deal.name == at:
                return deal
        raise UnknownDeal(at)

    def clauses(self):
        """The clauses of the calendar, then the own clauses of the deals that it does not have."""
        return list(self._clauses)

    def full(self):
        """The calendar with all clauses of the book."""
        return Calendar(self._calendar.moments(), self._clauses)

    def houses(self):
        """The sorted list of the houses."""
        return sorted(set([deal.house for deal in self._deals]))

    def cells(self):
        """The sorted list of the cells of all deals, each once."""
        return sorted(set([cell for deal in self._deals for cell in deal.cells()]))

    def at(self, cell):
        """The sorted list of the names of the deals with this cell."""
        check_cell(cell)
        return [deal.name for deal in self._deals if cell in deal]

    def touching(self):
        """The sorted list of the tuples of names, one ahead of the other, of deals that touch."""
        pairs = [(one, other) for one in self._deals for other in self._deals if one.name < other.name]
        return [(one.name, other.name) for one, other in pairs if one.touches(other)]

    def with_deal(self, deal):
        """The book with one deal more."""
        if not is_deal_for(deal, self._calendar):
            raise InvalidDeal(deal)
        if deal.name in self:
            raise NameTaken(deal.name)
        return Book(self._calendar, self._deals + (deal,))

    def without(self, *names):
        """The book without the deals of these names."""
        for name in names:
            check_deal_of(self, name)
        return Book(self._calendar, [deal for deal in self._deals if deal.name not in names])

    def only_of(self, house):
        """The book of the deals of this house."""
        if not is_name(house) or house not in self.houses():
            raise UnknownHouse(house)
        return Book(self._calendar, [deal for deal in self._deals if deal.house == house])

    def with_calendar(self, calendar):
        """The book of the same deals with another calendar."""
        return Book(calendar, self._deals)

    def __eq__(self, other):
        if not isinstance(other, Book):
            return False
        return self._calendar == other._calendar and self._deals == other._deals

    def __repr__(self):
        return f"Book({self._calendar!r}, {list(self._deals)!r})"


def is_deal_for(value, calendar):
    """Whether any value is a Deal whose moments are the calendar's."""
    if not isinstance(value, Deal):
        return False
    moments = calendar.moments()
    return all([moment in moments for moment in value.moments()])


def check_deals(calendar, deals):
    """Raise InvalidDeals unless these are deals for the calendar with different names in a list."""
    if not is_list(deals):
        raise InvalidDeals(None)
    names = []
    for at in range(len(deals)):
        if not is_deal_for(deals[at], calendar) or deals[at].name in names:
            raise InvalidDeals(at)
        names.append(deals[at].name)


def with_own_clauses(book, names):
    """The calendar of the book with the own clauses of these deals as further clauses, by sorted names."""
    calendar = book.calendar
    for name in sorted(names):
        own = book[name].own_clause()
        calendar = calendar if own is None else calendar.with_clause(own)
    return calendar


def all_clauses(calendar, deals):
    """The clauses of the calendar, then the own clauses of the deals, each once."""
    clauses = calendar.clauses()
    for deal in deals:
        own = deal.own_clause()
        if own is not None and own not in clauses:
            clauses.append(own)
    return clauses
