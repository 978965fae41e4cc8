"""What several tests share: values of any kind, and answers found by going through everything one by one.

Nothing here uses the package but for its interface, and nothing here searches cleverly.
"""

import itertools
import random
import unittest

from letdays.books import Book
from letdays.calendars import Calendar
from letdays.deals import Deal

ZERO = "day"

# Values of many kinds. None of them is a float.
ODD_VALUES = [
    None, True, False, 0, 1, -1, 10 ** 29, "", "a", "day", "A", "seven" + "ab", "a b", "a1", b"", b"a",
    [], (), {}, [[]], ((),), [None], ["a"], ("a",), ("a", 1), ["a", 1], ("a", "b", 1), ["a", "b", 1],
    {"a": 1}, {"a": True}, {1: 2}, {None: None}, {True: False}, {("a",): 1}, set(), {"a"}, frozenset(),
    range(2), object(), object, len, Ellipsis, ValueError("a"), iter([]), lambda: None, slice(1),
]


class Anything:
    """A value that says of itself that it is equal to any other one."""

    def __eq__(self, other):
        return True

    def __hash__(self):
        return 0


def odd_but(*kinds):
    """The values of ODD_VALUES that are of none of these kinds."""
    return [value for value in ODD_VALUES if type(value) not in kinds]


class Case(unittest.TestCase):
    """A test case that looks at errors and kinds of values more closely."""

    def raised(self, error, call, **attributes):
        """Check that the call raises just this error, with just these attributes."""
        try:
            call()
        except Exception as found:
            self.assertIs(type(found), error, f"{found!r} in place of {error.__name__}")
            for name, expected in attributes.items():
                self.same(getattr(found, name), expected)
            return
        self.fail(f"{error.__name__} was not raised")

    def same(self, found, expected):
        """Check that both are equal, and of the same kinds (True is not 1, a list is no tuple)."""
        if found is expected:
            return
        self.assertIs(type(found), type(expected), f"{found!r} in place of {expected!r}")
        self.assertEqual(found, expected)
        if isinstance(expected, (list, tuple)):
            for one, other in zip(found, expected):
                self.same(one, other)
        if isinstance(expected, dict):
            self.same(list(found), list(expected))
            self.same(list(found.values()), list(expected.values()))


def numbers(seed):
    """A source of numbers that is the same in each run."""
    return random.Random(seed)


def day(dates, moment):
    """The day of a moment or of `day`."""
    return 0 if moment == ZERO else dates[moment]


def point_day(dates, point):
    """The day of a point."""
    return day(dates, point[0]) + point[1]


def keeps(dates, clauses):
    """Whether dates keep all clauses."""
    return all(day(dates, one) <= day(dates, other) + number for one, other, number in clauses)


def dates_by_hand(moments, clauses, first, last):
    """All dates with days from first to last, by the lists of their days."""
    moments = sorted(moments)
    tuples = itertools.product(range(first, last + 1), repeat=len(moments))
    every = (dict(zip(moments, days)) for days in tuples)
    return [dates for dates in every if keeps(dates, clauses)]


def total(clauses):
    """The sum of the numbers."""
    return sum(number for _, _, number in clauses)


def rows_by_hand(clauses, one, other):
    """All rows from one to other."""
    def go_on(path, stops):
        if stops[-1] == other:
            yield list(path)
            return
        for clause in clauses:
            if clause[0] == stops[-1] and clause[1] not in stops:
                yield from go_on(path + [clause], stops + [clause[1]])
    return list(go_on([], [one]))


def bound_by_hand(clauses, one, other):
    """The least sum of a row from one to other; None if there is none."""
    return min((total(row) for row in rows_by_hand(clauses, one, other)), default=None)


def rings_by_hand(clauses):
    """All rings, each once for each of its clauses that can be the first one."""
    found = []
    for clause in clauses:
        for row in rows_by_hand(clauses, clause[1], clause[0]):
            if total([clause] + row) < 0:
                found.append([clause] + row)
    return found


def is_row_by_hand(clauses, one, other, value):
    """Whether a list of clauses is one of the rows from one to other."""
    return list(value) in rows_by_hand(clauses, one, other)


def some_clauses(source, moments, many, size):
    """So many clauses at most between the moments and `day`, with numbers of at most this size."""
    stops = list(moments) + [ZERO]
    found = []
    for _ in range(many):
        one, other = source.sample(stops, 2)
        clause = (one, other, source.randint(-size, size))
        if clause not in found:
            found.append(clause)
    return found


def networks(seed, count, moments, many, size):
    """So many lists of clauses, with and without dates."""
    source = numbers(seed)
    return [some_clauses(source, moments, source.randint(0, many), size) for _ in range(count)]


def deal(name, begin, end, lands="x", alone=True, price=1):
    """A deal of one film and one way."""
    return Deal(name, "h", ["f"], list(lands), ["w"], begin, end, alone=alone, price=price)


def some_deal(source, name, moments, size, long):
    """A deal between points of these moments and `day`, with numbers about the size, long days at most."""
    stops = list(moments) + [ZERO]
    begin = (source.choice(stops), source.randint(-size, size))
    end = (source.choice(stops), begin[1] + source.randint(0, long))
    lands, alone = source.choice(["x", "y", "xy"]), source.choice([True, True, False])
    return deal(name, begin, end, lands, alone, source.choice([0, 1, 2, 3, 5, 8]))


def small_books(seed, count, names="abcd", size=3):
    """Books with the moments m and n from the day 0 to the day 4, each with all its dates."""
    source = numbers(seed)
    fixed = [("m", "day", 4), ("day", "m", 0), ("n", "day", 4), ("day", "n", 0)]
    found = []
    while len(found) < count:
        clauses = fixed + [clause for clause in some_clauses(source, ["m", "n"], 2, 3) if clause not in fixed]
        deals = [some_deal(source, name, ["m", "n"], size, 3) for name in names]
        own = [one.own_clause() for one in deals if one.own_clause() is not None]
        every = dates_by_hand(["m", "n"], clauses + own, 0, 4)
        if every:
            found.append((Book(Calendar(["m", "n"], clauses), deals), every))
    return found


def open_books(seed, count, names="abcd", size=6):
    """Books with the moments m, n and p, of which some have no first or no last day, with and without own clauses."""
    source = numbers(seed)
    moments = ["m", "n", "p"]
    found = []
    while len(found) < count:
        clauses = some_clauses(source, moments, 5, 9)
        deals = [some_deal(source, name, moments, size, 4) for name in names]
        own = [one.own_clause() for one in deals if one.own_clause() is not None]
        if not rings_by_hand(clauses + own):
            found.append(Book(Calendar(moments, clauses), deals))
    return found


def lots_of(names):
    """All lots of these names, the empty one too, as sorted lists."""
    return [list(lot) for many in range(len(names) + 1) for lot in itertools.combinations(sorted(names), many)]


def is_ahead_by_hand(book, one, other):
    """Whether one deal is surely ahead of the other one, by all rows."""
    most = bound_by_hand(book.clauses(), book[one].end[0], book[other].begin[0])
    return most is not None and most + book[one].end[1] - book[other].begin[1] < 0


def ahead_by_hand(book):
    """The sorted list of the tuples of names, one surely ahead of the other one."""
    names = book.names()
    return [(one, other) for one in names for other in names if is_ahead_by_hand(book, one, other)]


def crowds_by_hand(names, ahead):
    """All crowds of these names."""
    every = [lot for lot in lots_of(names) if lot]
    return [lot for lot in every if not any((one, other) in ahead for one in lot for other in lot)]


def chains_by_hand(names, ahead):
    """All chains of these names."""
    found = []
    for lot in lots_of(names):
        for row in itertools.permutations(lot):
            if row and all(pair in ahead for pair in zip(row, row[1:])):
                found.append(list(row))
    return found


def touching_by_hand(book):
    """The sorted list of the tuples of names, one less than the other, of deals that touch."""
    def touch(one, other):
        return any(cell in other.cells() for cell in one.cells()) and (one.alone or other.alone)
    return [(one.name, other.name) for one in book for other in book if one.name < other.name and touch(one, other)]


def open_by_hand(book, ahead):
    """The sorted list of the open pairs."""
    return [(one, other) for one, other in touching_by_hand(book)
            if (one, other) not in ahead and (other, one) not in ahead]


def days_by_hand(dates, one):
    """The set of the days on which a deal is on in dates."""
    return set(range(point_day(dates, one.begin), point_day(dates, one.end) + 1))


def clashing_by_hand(book, every):
    """The sorted list of the tuples of names of deals that clash in some of these dates."""
    return [(one, other) for one, other in touching_by_hand(book)
            if any(days_by_hand(dates, book[one]) & days_by_hand(dates, book[other]) for dates in every)]


def safe_books(seed, count, names="abc"):
    """Books with the moments m and n, each with all its dates, that are safe; deals of them touch."""
    found = []
    while len(found) < count:
        for book, every in small_books(seed, 60, names, 6):
            if touching_by_hand(book) and not clashing_by_hand(book, every):
                found.append((book, every))
        seed += 1000
    return found[:count]


def wrong_names(names):
    """Tuples of a value that is no list of different ones of these two or more names, and the position of the error."""
    found = [(value, None) for value in ODD_VALUES if not isinstance(value, (list, tuple))]
    for value in [value for value in ODD_VALUES if value not in names] + ["zz", names]:
        found += [([value], 0), ((value,), 0), ([names[0], value], 1), ((names[1], names[0], value, None), 2)]
    found += [([names[0], names[0]], 1), ([names[0], names[1], names[0], "zz"], 2), (["zz", "zz"], 0)]
    return found


def wrong_dates(book):
    """Values that are no dates of a book with moments and with dates."""
    right = book.full().dates()
    first = list(right)[0]
    found = [value for value in ODD_VALUES if not isinstance(value, dict) or sorted(map(repr, value)) != sorted(right)]
    found += [list(right.items()), {**right, "zz": 0}, {**right, "day": 0}]
    found += [{**right, first: value} for value in (True, None, "1", [1])]
    return found + [{name: right[name] for name in right if name != first}]


def wrong_cells():
    """Values that are no tuple of three names."""
    return ODD_VALUES + [["f", "x", "w"], ("f", "x"), ("f", "x", "w", "w"), ("f", "day", "w"), ("f", "x", "W"),
                         ("f", None, "w"), (True, "x", "w"), ("f", "x", ["w"]), "fxw"]
