"""What several tests share: values of any kind, and answers found by going through everything one by one.

Nothing here uses the package but for its interface, and nothing here searches cleverly.
"""

import itertools
import random
import unittest

ZERO = "day"

# Values of many kinds. None of them is a float.
ODD_VALUES = [
    None, True, False, 0, 1, -1, 10 ** 29, "", "a", "day", "A", "seven" + "ab", "a b", "a1", b"", b"a",
    [], (), {}, [[]], ((),), [None], ["a"], ("a",), ("a", 1), ["a", 1], ("a", "b", 1), ["a", "b", 1],
    {"a": 1}, {"a": True}, {1: 2}, {None: None}, {True: False}, {("a",): 1}, set(), {"a"}, frozenset(),
    range(2), object(), object, len, Ellipsis, ValueError("a"), iter([]), lambda: None, slice(1),
]


def odd_but(*kinds):
    """The values of ODD_VALUES that are of none of these kinds."""
    return [value for value in ODD_VALUES if type(value) not in kinds]


class Case(unittest.TestCase):
    """A test case that looks at errors and kinds of values more closely."""

    def raised(self, error, call, **attributes):
        """Check that the call raises just this error, with just these attributes."""
        try:
            call()
        except Exception as found:
            self.assertIs(type(found), error, f"{found!r} in place of {error.__name__}")
            for name, expected in attributes.items():
                self.same(getattr(found, name), expected)
            return
        self.fail(f"{error.__name__} was not raised")

    def same(self, found, expected):
        """Check that both are equal, and of the same kinds (True is not 1, a list is no tuple)."""
        if found is expected:
            return
        self.assertIs(type(found), type(expected), f"{found!r} in place of {expected!r}")
        self.assertEqual(found, expected)
        if isinstance(expected, (list, tuple)):
            for one, other in zip(found, expected):
                self.same(one, other)
        if isinstance(expected, dict):
            self.same(list(found), list(expected))
            self.same(list(found.values()), list(expected.values()))


def numbers(seed):
    """A source of numbers that is the same in each run."""
    return random.Random(seed)


def day(dates, moment):
    """The day of a moment or of `day`."""
    return 0 if moment == ZERO else dates[moment]


def point_day(dates, point):
    """The day of a point."""
    return day(dates, point[0]) + point[1]


def keeps(dates, clauses):
    """Whether dates keep all clauses."""
    return all(day(dates, one) <= day(dates, other) + number for one, other, number in clauses)


def dates_by_hand(moments, clauses, first, last):
    """All dates with days from first to last, by the lists of their days."""
    moments = sorted(moments)
    tuples = itertools.product(range(first, last + 1), repeat=len(moments))
    every = (dict(zip(moments, days)) for days in tuples)
    return [dates for dates in every if keeps(dates, clauses)]


def total(clauses):
    """The sum of the numbers."""
    return sum(number for _, _, number in clauses)


def rows_by_hand(clauses, one, other):
    """All rows from one to other."""
    def go_on(path, stops):
        if stops[-1] == other:
            yield list(path)
            return
        for clause in clauses:
            if clause[0] == stops[-1] and clause[1] not in stops:
                yield from go_on(path + [clause], stops + [clause[1]])
    return list(go_on([], [one]))


def bound_by_hand(clauses, one, other):
    """The least sum of a row from one to other; None if there is none."""
    return min((total(row) for row in rows_by_hand(clauses, one, other)), default=None)


def rings_by_hand(clauses):
    """All rings, each once for each of its clauses that can be the first one."""
    found = []
    for clause in clauses:
        for row in rows_by_hand(clauses, clause[1], clause[0]):
            if total([clause] + row) < 0:
                found.append([clause] + row)
    return found


def is_row_by_hand(clauses, one, other, value):
    """Whether a list of clauses is one of the rows from one to other."""
    return list(value) in rows_by_hand(clauses, one, other)


def some_clauses(source, moments, many, size):
    """So many clauses at most between the moments and `day`, with numbers of at most this size."""
    stops = list(moments) + [ZERO]
    found = []
    for _ in range(many):
        one, other = source.sample(stops, 2)
        clause = (one, other, source.randint(-size, size))
        if clause not in found:
            found.append(clause)
    return found


def networks(seed, count, moments, many, size):
    """So many lists of clauses, with and without dates."""
    source = numbers(seed)
    return [some_clauses(source, moments, source.randint(0, many), size) for _ in range(count)]
