"""Windows: which days, counted from a moment, deals bar, hold and leave free for a wish."""

from letdays.checks import check_cell, check_integer, check_moment, check_point
from letdays.closing import row, span
from letdays.errors import InvalidNumber, InvalidStretches, InvalidWindow
from letdays.networks import clause_between, dates_in
from letdays.pairs import most_behind, row_span
from letdays.stretches import first_room, has_number, is_stretch, joined, other_numbers
from letdays.values import day_of, is_integer, is_list


def barred(book, name, moment):
    """The stretch of the numbers at which the deal is on in some dates."""
    deal = book[name]
    check_moment(book.calendar, moment)
    return barred_by(book.full(), deal, moment)


def barred_by(full, deal, moment):
    """The stretch that the deal of a book with this full calendar bars."""
    low, _ = span(full, deal.begin, (moment, 0))
    _, high = span(full, deal.end, (moment, 0))
    return (low, high)


def held(book, name, moment):
    """The stretch of the numbers at which the deal is on in all dates; None if there are none."""
    deal = book[name]
    check_moment(book.calendar, moment)
    return held_by(book.full(), deal, moment)


def held_by(full, deal, moment):
    """The stretch that the deal of a book with this full calendar holds; None if it holds nothing."""
    _, low = span(full, deal.begin, (moment, 0))
    high, _ = span(full, deal.end, (moment, 0))
    if low is None or high is None or low > high:
        return None
    return (low, high)


def does_count(deal, cell, alone):
    """Whether the deal counts for a wish for the cell, alone or beside others."""
    return cell in deal and (alone or deal.alone)


def counting(book, cell, alone):
    """The deals that count for a wish for the cell, alone or beside others."""
    return [deal for deal in book if does_count(deal, cell, alone)]


def free_window(book, cell, moment, alone):
    """The window of the free numbers."""
    full = book.full()
    return -Window([barred_by(full, deal, moment) for deal in counting(book, cell, alone)])


def free_stretches(book, cell, moment, alone=True):
    """The stretches of free numbers, as long as can be, by their numbers."""
    check_cell(cell)
    check_moment(book.calendar, moment)
    return free_window(book, cell, moment, alone).stretches


def taken_stretches(book, cell, moment, alone=True):
    """The stretches of taken numbers, as long as can be, by their numbers."""
    check_cell(cell)
    check_moment(book.calendar, moment)
    full = book.full()
    found = [held_by(full, deal, moment) for deal in counting(book, cell, alone)]
    return Window([stretch for stretch in found if stretch is not None]).stretches


def is_free(book, cell, point, alone=True):
    """Whether the number of the point is free."""
    check_cell(cell)
    check_point(book.calendar, point)
    return point[1] in free_window(book, cell, point[0], alone)


def room_at(book, cell, point, alone=True):
    """How many numbers from that of the point on are free; None if all are."""
    check_cell(cell)
    check_point(book.calendar, point)
    for stretch in free_stretches(book, cell, point[0], alone):
        if has_number(stretch, point[1]):
            return None if stretch[1] is None else stretch[1] - point[1] + 1
    return 0


def earliest(book, cell, point, long, alone=True):
    """The least number, from that of the point on, with room for so many days; None if there is none."""
    check_cell(cell)
    check_point(book.calendar, point)
    if not is_integer(long) or long < 1:
        raise InvalidNumber(long)
    return first_room(free_stretches(book, cell, point[0], alone), point[1], long)


def bar_at(book, cell, point, alone=True):
    """A deal that counts, and dates in which it is on at the day of the point; None if there are none."""
    check_cell(cell)
    check_point(book.calendar, point)
    for deal in counting(book, cell, alone):
        asked = [clause_between(deal.begin, point), clause_between(point, deal.end)]
        dates = dates_in(book.calendar.moments(), book.clauses() + asked)
        if dates is not None:
            return (deal.name, dates)
    return None


def is_bar(book, cell, point, value, alone=True):
    """Whether any value is a bar at the number of the point."""
    check_cell(cell)
    check_point(book.calendar, point)
    if not isinstance(value, tuple) or len(value) != 2:
        return False
    name, dates = value
    if name not in book or dates not in book.full():
        return False
    deal = book[name]
    return does_count(deal, cell, alone) and deal.is_on(dates, day_of(dates, point[0]) + point[1])


def clearing_at(book, cell, point, alone=True):
    """The dict from the deals that count to rows by which they are not on then; None if there is none."""
    check_cell(cell)
    check_point(book.calendar, point)
    full = book.full()
    found = {deal.name: clearing_row(full, deal, point) for deal in counting(book, cell, alone)}
    return None if any([found[name] is None for name in found]) else found


def clearing_row(full, deal, point):
    """A row by which the deal has ended before the point, or begins behind it; None if there is none."""
    for first, second in ((deal.end, point), (point, deal.begin)):
        most = most_behind(full, first, second)
        if most is not None and most < 0:
            return row(full, first[0], second[0])
    return None


def is_clearing(book, cell, point, value, alone=True):
    """Whether any value is a clearing of the number of the point."""
    check_cell(cell)
    check_point(book.calendar, point)
    deals = counting(book, cell, alone)
    if not isinstance(value, dict) or len(value) != len(deals):
        return False
    full = book.full()
    return all([deal.name in value and is_clearing_row(full, deal, point, value[deal.name]) for deal in deals])


def is_clearing_row(full, deal, point, value):
    """Whether any value is a row by which the deal has ended before the point, or begins behind it."""
    spans = [row_span(full, deal.end, point, value), row_span(full, point, deal.begin, value)]
    return any([most is not None and most < 0 for most in spans])


def check_stretches(stretches):
    """Raise InvalidStretches unless these are stretches in a list."""
    if not is_list(stretches):
        raise InvalidStretches(None)
    for at in range(len(stretches)):
        if not is_stretch(stretches[at]):
            raise InvalidStretches(at)


def check_window(value):
    """Raise InvalidWindow unless this is a Window."""
    if not isinstance(value, Window):
        raise InvalidWindow(value)


class Window:
    """Numbers, told by stretches. It never changes."""

    def __init__(self, stretches):
        check_stretches(stretches)
        self._stretches = tuple(joined(stretches))

    @property
    def stretches(self):
        """The stretches of its numbers, as long as can be, by their numbers."""
        return list(self._stretches)

    def __contains__(self, x):
        return is_integer(x) and any([has_number(stretch, x) for stretch in self._stretches])

    def __iter__(self):
        return iter(self._stretches)

    def __and__(self, other):
        check_window(other)
        return -(-self | -other)

    def __or__(self, other):
        check_window(other)
        return Window(self._stretches + other._stretches)

    def __sub__(self, other):
        check_window(other)
        return self & -other

    def __neg__(self):
        return Window(other_numbers(self._stretches))

    def __add__(self, other):
        check_integer(other)
        return Window([shifted(stretch, other) for stretch in self._stretches])

    def __radd__(self, other):
        return self + other

    def __eq__(self, other):
        if not isinstance(other, Window):
            return False
        return self._stretches == other._stretches

    def __repr__(self):
        return f"Window({list(self._stretches)!r})"


def shifted(stretch, days):
    """The stretch, each number so many days later."""
    low, high = stretch
    return (None if low is None else low + days, None if high is None else high + days)
