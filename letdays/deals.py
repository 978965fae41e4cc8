"""Deals: a house's right to films, in lands, by ways, from one point to another one."""

from letdays.checks import check_count, check_integer, check_name, check_some_names
from letdays.errors import InvalidDates, InvalidDeal, InvalidPoint, TooMany
from letdays.networks import clause_between
from letdays.values import FIXED, day_of, is_cell, is_integer, is_point

MOST_FILMS = 4
MOST_LANDS = 4
MOST_WAYS = 3


class Deal:
    """A deal. It never changes."""

    def __init__(self, name, house, films, lands, ways, begin, end, *, alone=True, price=1):
        check_name(name)
        check_name(house)
        check_some_names(films)
        check_some_names(lands)
        check_some_names(ways)
        check_points(begin, end)
        check_count(price)
        check_sizes(films, lands, ways)
        self._name = name
        self._house = house
        self._films = tuple(sorted(films))
        self._lands = tuple(sorted(lands))
        self._ways = tuple(sorted(ways))
        self._begin = begin
        self._end = end
        self._alone = alone
        self._price = price
        self._cells = tuple(cells_of(self._films, self._lands, self._ways))

    @property
    def name(self):
        """The name."""
        return self._name

    @property
    def house(self):
        """The house."""
        return self._house

    @property
    def films(self):
        """The sorted tuple of the films."""
        return self._films

    @property
    def lands(self):
        """The sorted tuple of the lands."""
        return self._lands

    @property
    def ways(self):
        """The sorted tuple of the ways."""
        return self._ways

    @property
    def begin(self):
        """The point with which it begins."""
        return self._begin

    @property
    def end(self):
        """The point with which it ends."""
        return self._end

    @property
    def alone(self):
        """Whether it is alone."""
        return self._alone

    @property
    def price(self):
        """The price."""
        return self._price

    def cells(self):
        """The sorted list of the cells."""
        return list(self._cells)

    def moments(self):
        """The sorted list of the moments of its points, without `day`."""
        return sorted(set([point[0] for point in (self._begin, self._end) if point[0] != FIXED]))

    def own_clause(self):
        """The clause that its begin is not behind its end; None if its points are of one moment."""
        if self._begin[0] == self._end[0]:
            return None
        return clause_between(self._begin, self._end)

    def __len__(self):
        return len(self._cells)

    def __contains__(self, x):
        return is_cell(x) and x in self._cells

    def named(self, name):
        """The deal with another name."""
        return self._changed(name, self._house, self._begin, self._end, self._alone, self._price)

    def of_house(self, house):
        """The deal with another house."""
        return self._changed(self._name, house, self._begin, self._end, self._alone, self._price)

    def priced(self, price):
        """The deal with another price."""
        return self._changed(self._name, self._house, self._begin, self._end, self._alone, price)

    def beside(self):
        """The deal, not alone."""
        return self._changed(self._name, self._house, self._begin, self._end, False, self._price)

    def moved(self, days):
        """The deal with both points so many days later."""
        check_integer(days)
        begin = (self._begin[0], self._begin[1] + days)
        end = (self._end[0], self._end[1] + days)
        return self._changed(self._name, self._house, begin, end, self._alone, self._price)

    def _changed(self, name, house, begin, end, alone, price):
        """The deal with the same cells, and these other parts."""
        return Deal(name, house, self._films, self._lands, self._ways, begin, end, alone=alone, price=price)

    def days(self, dates):
        """The tuple of the first and the last day on which it is on in dates."""
        if not self._is_dated(dates):
            raise InvalidDates(dates)
        return (self._day_at(self._begin, dates), self._day_at(self._end, dates))

    def _is_dated(self, dates):
        """Whether any value is a dict that gives its moments days by which its begin is not behind its end."""
        if not isinstance(dates, dict):
            return False
        if not all([moment in dates and is_integer(dates[moment]) for moment in self.moments()]):
            return False
        return self._day_at(self._begin, dates) <= self._day_at(self._end, dates)

    def _day_at(self, point, dates):
        """The day of one of its points in dates."""
        return day_of(dates, point[0]) + point[1]

    def is_on(self, dates, day):
        """Whether it is on at a day in dates."""
        first, last = self.days(dates)
        check_integer(day)
        return first <= day <= last

    def __and__(self, other):
        if not isinstance(other, Deal):
            raise InvalidDeal(other)
        return [cell for cell in self._cells if cell in other._cells]

    def touches(self, other):
        """Whether both have a cell in common, and at least one of them is alone."""
        common = self & other
        return len(common) > 0 and (self._alone or other._alone)

    def __eq__(self, other):
        if not isinstance(other, Deal):
            return False
        return self._told() == other._told()

    def __repr__(self):
        return f"Deal({self._shown()})"

    def _told(self):
        """All its parts."""
        places = (self._films, self._lands, self._ways)
        return (self._name, self._house, places, self._begin, self._end, self._alone, self._price)

    def _shown(self):
        """Its parts as the constructor takes them."""
        places = [list(names) for names in (self._films, self._lands, self._ways)]
        parts = [self._name, self._house, places[0], places[1], places[2], self._begin, self._end]
        told = ", ".join([repr(part) for part in parts])
        return f"{told}, alone={self._alone!r}, price={self._price!r}"


def deal_like(deal, lands, begin, end):
    """The deal with these lands and points, and all else as it is."""
    return Deal(deal.name, deal.house, deal.films, lands, deal.ways, begin, end, alone=deal.alone, price=deal.price)


def check_points(begin, end):
    """Raise InvalidPoint unless these are points, the begin not behind the end if both are of one moment."""
    if not is_point(begin):
        raise InvalidPoint(begin)
    if not is_point(end) or (begin[0] == end[0] and begin[1] > end[1]):
        raise InvalidPoint(end)


def check_sizes(films, lands, ways):
    """Raise TooMany for more films, lands or ways than a deal may have."""
    for what, names, limit in (("films", films, MOST_FILMS), ("lands", lands, MOST_LANDS), ("ways", ways, MOST_WAYS)):
        if len(names) > limit:
            raise TooMany(what, limit)


def cells_of(films, lands, ways):
    """The list of all cells of these films, lands and ways."""
    return [(film, land, way) for film in films for land in lands for way in ways]
