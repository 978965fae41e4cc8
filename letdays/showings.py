"""Showings: whether the deals of a book cover them, in dates or in all dates, within counts."""

from letdays.checks import check_dates_of
from letdays.closing import bounds
from letdays.errors import InvalidNumber, InvalidShowings, TooMany
from letdays.flows import greatest_amounts
from letdays.order import most_by
from letdays.values import are_sorted, day_of, is_cell, is_count, is_integer, is_list, is_name, is_point_of, lots_of

MOST_SHOWINGS = 40


def is_showing(book, value):
    """Whether any value is a tuple of a film, a land, a way, and a point of the book's calendar."""
    if not isinstance(value, tuple) or len(value) != 4:
        return False
    return is_cell(value[:3]) and is_point_of(value[3], book.calendar.moments())


def check_showing(book, showing):
    """Raise InvalidShowings unless this is a showing of the book."""
    if not is_showing(book, showing):
        raise InvalidShowings(None)


def check_counts(book, counts):
    """Raise InvalidNumber unless this is a dict from names of deals of the book to COUNTS."""
    if not isinstance(counts, dict) or not all([name in book and is_count(counts[name]) for name in counts]):
        raise InvalidNumber(counts)


def check_showings(book, showings):
    """Raise InvalidShowings unless these are showings of the book in a list, and TooMany for too many of them."""
    if not is_list(showings):
        raise InvalidShowings(None)
    for at in range(len(showings)):
        if not is_showing(book, showings[at]):
            raise InvalidShowings(at)
    if len(showings) > MOST_SHOWINGS:
        raise TooMany("showings", MOST_SHOWINGS)


def covering(book, dates, showing):
    """The sorted list of the names of the deals that cover the showing in dates."""
    check_dates_of(book, dates)
    check_showing(book, showing)
    return covering_in(book, dates, showing)


def covering_in(book, dates, showing):
    """The sorted list of the names of the deals that cover the showing in dates of the book."""
    day = day_of(dates, showing[3][0]) + showing[3][1]
    return [deal.name for deal in book if showing[:3] in deal and deal.is_on(dates, day)]


def surely_covering(book, showing):
    """The sorted list of the names of the deals that cover the showing in all dates."""
    check_showing(book, showing)
    return surely_covering_by(book, bounds(book.full()), showing)


def surely_covering_by(book, table, showing):
    """The sorted list of the names of the deals that by these bounds cover the showing in all dates."""
    return [deal.name for deal in book if showing[:3] in deal and is_surely_on(table, deal, showing[3])]


def is_surely_on(table, deal, point):
    """Whether by these bounds the deal is on at the day of the point in all dates."""
    ends = [most_by(table, deal.begin, point), most_by(table, point, deal.end)]
    return all([most is not None and most <= 0 for most in ends])


def covering_each(book, dates, counts, showings):
    """For each of the showings the names of the deals that cover it in dates."""
    check_dates_of(book, dates)
    check_counts(book, counts)
    check_showings(book, showings)
    return [covering_in(book, dates, showing) for showing in showings]


def surely_covering_each(book, counts, showings):
    """For each of the showings the names of the deals that cover it in all dates."""
    check_counts(book, counts)
    check_showings(book, showings)
    table = bounds(book.full())
    return [surely_covering_by(book, table, showing) for showing in showings]


def is_plan_by(counts, covers, value):
    """Whether any value is a list of one of the names that cover each showing, none more often than its count."""
    if not is_list(value) or len(value) != len(covers):
        return False
    if not all([is_name(value[at]) and value[at] in covers[at] for at in range(len(covers))]):
        return False
    names = list(value)
    return all([names.count(name) <= counts.get(name, 0) for name in names])


def filled_by(counts, covers):
    """The dict from as many positions of showings as can be to the names of deals that cover them within counts."""
    links = [(name, at) for at in range(len(covers)) for name in covers[at] if name in counts]
    amounts = greatest_amounts(counts, {at: 1 for at in range(len(covers))}, links)
    return {at: name for name, at in links if amounts[(name, at)] > 0}


def plan_by(counts, covers):
    """A list of one of the names that cover each showing, none more often than its count; None if there is none."""
    found = filled_by(counts, covers)
    return [found[at] for at in range(len(covers))] if len(found) == len(covers) else None


def lack_by(names, counts, covers):
    """The positions that only some of these names cover, whose counts are fewer together; None if there are none."""
    for some in lots_of(names):
        held = [at for at in range(len(covers)) if all([name in some for name in covers[at]])]
        if are_fewer(counts, some, held):
            return held
    return None


def are_fewer(counts, names, positions):
    """Whether the counts of these names are together fewer than the positions."""
    return sum([counts.get(name, 0) for name in names]) < len(positions)


def is_plan(book, dates, counts, showings, value):
    """Whether any value is a plan of the showings in dates."""
    return is_plan_by(counts, covering_each(book, dates, counts, showings), value)


def is_lack(book, dates, counts, showings, value):
    """Whether any value is a lack of the showings in dates."""
    covers = covering_each(book, dates, counts, showings)
    if not is_list(value) or not all([is_integer(at) and 0 <= at < len(covers) for at in value]):
        return False
    names = sorted(set([name for at in value for name in covers[at]]))
    return are_sorted(value) and are_fewer(counts, names, value)


def plan(book, dates, counts, showings):
    """A plan of the showings in dates; None if there is none."""
    return plan_by(counts, covering_each(book, dates, counts, showings))


def lack(book, dates, counts, showings):
    """A lack of the showings in dates; None if there is none."""
    return lack_by(book.names(), counts, covering_each(book, dates, counts, showings))


def most_shown(book, dates, counts, showings):
    """The greatest number of positions of the showings that have a plan by themselves in dates."""
    return len(filled_by(counts, covering_each(book, dates, counts, showings)))


def is_sure_plan(book, counts, showings, value):
    """Whether any value is a plan of the showings in all dates."""
    return is_plan_by(counts, surely_covering_each(book, counts, showings), value)


def sure_plan(book, counts, showings):
    """A plan of the showings in all dates; None if there is none."""
    return plan_by(counts, surely_covering_each(book, counts, showings))


def sure_lack(book, counts, showings):
    """A lack of the showings, in which covers means covers in all dates; None if there is none."""
    return lack_by(book.names(), counts, surely_covering_each(book, counts, showings))
