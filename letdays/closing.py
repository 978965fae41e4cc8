"""What follows from all clauses of a calendar together: bounds, rows, spans, needless clauses, all dates."""

from letdays.calendars import Calendar
from letdays.checks import check_has_dates, check_integer, check_moment, check_point
from letdays.errors import InvalidNumber, OtherMoments, TooMany
from letdays.networks import clause_between, dates_in, least_row, nearest

MOST_DATES = 4096


def bound(calendar, one, other):
    """The greatest number of days by which one is behind the other in any dates; None if there is none."""
    check_moment(calendar, one)
    check_moment(calendar, other)
    check_has_dates(calendar)
    sums, _ = nearest(calendar.moments(), calendar.clauses(), other)
    return sums[one]


def row(calendar, one, other):
    """A row from one to other with the least sum; None if there is no row."""
    check_moment(calendar, one)
    check_moment(calendar, other)
    check_has_dates(calendar)
    return least_row(calendar.moments(), calendar.clauses(), one, other)


def bounds(calendar):
    """The dict from all tuples of two different moments, `day` too, to their bounds."""
    check_has_dates(calendar)
    stops = sorted([Calendar.ZERO] + calendar.moments())
    sums_to = {}
    for goal in stops:
        sums, _ = nearest(calendar.moments(), calendar.clauses(), goal)
        sums_to[goal] = sums
    return {(one, other): sums_to[other][one] for one in stops for other in stops if one != other}


def span(calendar, point, other):
    """The least and the greatest number of days by which the point is behind the other one."""
    check_point(calendar, point)
    check_point(calendar, other)
    back = bound(calendar, other[0], point[0])
    forth = bound(calendar, point[0], other[0])
    shift = point[1] - other[1]
    return (None if back is None else shift - back, None if forth is None else shift + forth)


def reaching(calendar, one, other):
    """Dates in which one is behind the other by their bound; None without a bound."""
    most = bound(calendar, one, other)
    if most is None:
        return None
    return dates_in(calendar.moments(), calendar.clauses() + [(other, one, -most)])


def dates_with(calendar, point, other, number):
    """Dates in which the point is just so many days behind the other one; None if there are none."""
    check_point(calendar, point)
    check_point(calendar, other)
    check_integer(number)
    check_has_dates(calendar)
    asked = [clause_between(point, other, number), clause_between(other, point, -number)]
    return dates_in(calendar.moments(), calendar.clauses() + asked)


def needless(calendar):
    """The sorted list of the positions of the needless clauses."""
    check_has_dates(calendar)
    moments = calendar.moments()
    clauses = calendar.clauses()
    return [at for at in range(len(clauses)) if is_needless(moments, clauses, clauses[at])]


def least_clauses(calendar):
    """The calendar with the clauses that stay when needless ones are left out, from the last one on."""
    check_has_dates(calendar)
    moments = calendar.moments()
    kept = calendar.clauses()
    for clause in calendar.clauses()[::-1]:
        if is_needless(moments, kept, clause):
            kept = without_clause(kept, clause)
    return Calendar(moments, kept)


def is_needless(moments, clauses, clause):
    """Whether the others of these clauses have a row that says as much as this one."""
    others = without_clause(clauses, clause)
    sums, _ = nearest(moments, others, clause[1])
    return sums[clause[0]] is not None and sums[clause[0]] <= clause[2]


def without_clause(clauses, clause):
    """The clauses without this one."""
    return [other for other in clauses if other != clause]


def are_alike(one, other):
    """Whether two calendars with the same moments have the same dates."""
    return parting_dates(one, other) is None


def parting_dates(one, other):
    """Dates of just one of two calendars with the same moments; None if they are alike."""
    if one.moments() != other.moments():
        raise OtherMoments(one.moments(), other.moments())
    found = dates_outside(one, other)
    return dates_outside(other, one) if found is None else found


def dates_outside(calendar, other):
    """Dates of the calendar that break a clause of the other one; None if there are none."""
    for first, second, number in other:
        found = dates_in(calendar.moments(), calendar.clauses() + [(second, first, -number - 1)])
        if found is not None:
            return found
    return None


def all_dates(calendar, first, last):
    """Yield all dates with days from first to last, by the lists of their days, moments sorted."""
    check_integer(first)
    check_integer(last)
    if last < first:
        raise InvalidNumber(last)
    moments = calendar.moments()
    width = last - first + 1
    many = tuples_of_days(moments, width)
    if many > MOST_DATES:
        raise TooMany("dates", MOST_DATES)
    for number in range(many):
        dates = dates_numbered(moments, first, width, number)
        if dates in calendar:
            yield dates


def tuples_of_days(moments, width):
    """How many tuples give each moment one of so many days; one, if there are no moments."""
    many = 1
    for _ in moments:
        many = many * width
    return many


def dates_numbered(moments, first, width, number):
    """The days, as dates, of the tuple at a position, all tuples in ascending order."""
    days = []
    for _ in moments:
        days = [first + number % width] + days
        number = number // width
    return {moment: day for moment, day in zip(moments, days)}
