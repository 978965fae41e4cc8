"""The order of the deals of a book: which one is surely ahead of which other one."""

from letdays.chains import lined_up
from letdays.checks import check_deal_of, check_names_of
from letdays.closing import bounds, row
from letdays.errors import UnknownDeal
from letdays.pairs import is_surely_ahead, reach, row_span
from letdays.values import is_name


def is_ahead(book, one, other):
    """Whether one deal is surely ahead of the other one."""
    first, second = book[one], book[other]
    return is_surely_ahead(book.full(), first, second)


def ahead_row(book, one, other):
    """A row with the bound as its sum that shows that one is surely ahead of other; None if it is not."""
    if not is_ahead(book, one, other):
        return None
    return row(book.full(), book[one].end[0], book[other].begin[0])


def is_ahead_row(book, one, other, value):
    """Whether any value is a row that shows that one is surely ahead of other."""
    first, second = book[one], book[other]
    most = row_span(book.full(), first.end, second.begin, value)
    return most is not None and most < 0


def all_ahead(book, name):
    """The sorted list of the deals that are surely ahead of this one."""
    check_deal_of(book, name)
    return [one for one, other in ahead_pairs(book) if other == name]


def all_behind(book, name):
    """The sorted list of the deals of which this one is surely ahead."""
    check_deal_of(book, name)
    return [other for one, other in ahead_pairs(book) if one == name]


def direct_pairs(book):
    """The sorted list of the tuples (one, other), one surely ahead of the other, and none between."""
    pairs = ahead_pairs(book)
    return [pair for pair in pairs if not is_parted(book.names(), pairs, pair)]


def is_parted(names, pairs, pair):
    """Whether one of these names stands between the two of the pair."""
    return any([(pair[0], name) in pairs and (name, pair[1]) in pairs for name in names])


def least_gap(book, one, other):
    """The least number of days between one and other, in any dates; None if one is not surely ahead."""
    most = reach(book, one, other)
    if most is None or most >= 0:
        return None
    return -most - 1


def in_sequence(book, names):
    """Yield all names, each behind those that are surely ahead; of several that could be next, the least one."""
    check_names_of(book, names)
    found = lined_up(names, ahead_pairs(book))
    for name in found:
        yield name


def ahead_pairs(book):
    """The sorted list of the tuples of names of which the first one is surely ahead of the second one."""
    return list(least_gaps(book))


def least_gaps(book):
    """The dict from the tuples (one, other) of names, one surely ahead of the other, to their least gaps; sorted."""
    table = bounds(book.full())
    found = {}
    for one in book:
        for other in book:
            most = most_by(table, one.end, other.begin)
            if most is not None and most < 0:
                found[(one.name, other.name)] = -most - 1
    return found


def most_by(table, point, other):
    """The greatest number of days, by these bounds, by which the point is behind the other one; None without one."""
    most = 0 if point[0] == other[0] else table[(point[0], other[0])]
    return None if most is None else most + point[1] - other[1]


class Order:
    """The order of a book, all at once. It never changes."""

    def __init__(self, book):
        self._book = book
        self._names = tuple(book.names())
        self._pairs = tuple(ahead_pairs(book))

    @property
    def book(self):
        """The book."""
        return self._book

    def __contains__(self, x):
        if not isinstance(x, tuple) or len(x) != 2:
            return False
        return is_name(x[0]) and is_name(x[1]) and x in self._pairs

    def __len__(self):
        return len(self._pairs)

    def __iter__(self):
        return iter(self._pairs)

    def __getitem__(self, at):
        if not is_name(at) or at not in self._names:
            raise UnknownDeal(at)
        return [other for one, other in self._pairs if one == at]

    def __eq__(self, other):
        if not isinstance(other, Order):
            return False
        return self._names == other._names and self._pairs == other._pairs
