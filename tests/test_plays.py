"""[74]: by how many days clauses can be loosened, against all dates gone through one by one and least sums."""

from letdays.books import Book
from letdays.calendars import Calendar
from letdays.errors import InvalidNumber, NotSafe, TooMany
from letdays.rights import loosened, play, slacks, tight_pair
from letdays.together import is_safe, open_pairs
from tests.support import Case, ODD_VALUES, ahead_by_hand, clashing_by_hand, dates_by_hand, deal, open_books
from tests.support import open_by_hand, safe_books, touching_by_hand
from tests.test_rights import open_row, row

BIG = 10 ** 29


def looser(book, position, days):
    """The clauses of the book, one of its calendar with so many days more, and each just once."""
    clauses = book.calendar.clauses()
    one, other, number = clauses[position]
    clauses[position] = (one, other, number + days)
    clauses += [each.own_clause() for each in book if each.own_clause() is not None]
    return list(dict.fromkeys(clauses))


def is_safe_by_dates(book, position, days):
    """Whether no deals of the book clash in dates of the loosened book."""
    every = dates_by_hand(["m", "n"], looser(book, position, days), -20, 24)
    return not clashing_by_hand(book, every)


def is_safe_by_sums(book):
    return not open_by_hand(book, ahead_by_hand(book))


def tight_by_hand(book, position):
    """The pairs that give way without the clause, by their slacks."""
    less = Book(book.calendar.without(position), list(book))
    kept = ahead_by_hand(less)
    pairs = [pair for pair in ahead_by_hand(book) if tuple(sorted(pair)) in touching_by_hand(book)]
    return {pair: slacks(book)[pair] for pair in pairs if pair not in kept}


def twice(*numbers):
    """A book whose calendar has clauses (m, day) with these numbers."""
    return Book(Calendar(["m"], [("m", "day", number) for number in numbers]),
                [deal("a", ("m", 0), ("m", 3)), deal("b", ("day", 20), ("day", 30))])


class AgainstAllDates(Case):
    def test_play(self):
        told = [0, 0]
        for book, _ in safe_books(321, 80):
            for position in range(len(book.calendar)):
                days = play(book, position)
                told[days is None] += 1
                if days is None:
                    self.assertTrue(is_safe_by_dates(book, position, 8))
                else:
                    self.assertGreaterEqual(days, 0)
                    self.assertTrue(is_safe_by_dates(book, position, days))
                    self.assertFalse(is_safe_by_dates(book, position, days + 1))
        self.assertGreater(min(told), 20)

    def test_loosened_by_the_play(self):
        told, pairs = [0, 0], 0
        books = [book for book, _ in safe_books(322, 200)] + open_books(323, 300, size=40)
        for book in [book for book in books if is_safe_by_sums(book)]:
            for position in range(len(book.calendar)):
                days, table = play(book, position), tight_by_hand(book, position)
                told[days is None] += 1
                self.same(days, min(table.values(), default=None))
                tight = sorted(pair for pair in table if table[pair] == days)
                self.same(tight_pair(book, position), tight[0] if tight else None)
                pairs += len(tight) > 1
                for more, expected in ([(BIG, True)] if days is None else [(days, True), (days + 1, False)]):
                    found = loosened(book, position, more)
                    self.assertIs(is_safe(found), expected)
                    self.assertIs(is_safe_by_sums(found), expected)
                if days is not None:
                    one, other = tight_pair(book, position)
                    self.assertIn(tuple(sorted((one, other))), open_pairs(loosened(book, position, days + 1)))
        self.assertGreater(min(told + [10 * pairs]), 50)

    def test_great_numbers(self):
        long = 0
        for book in [book for book in open_books(324, 200, size=BIG) if is_safe_by_sums(book)]:
            for position in range(len(book.calendar)):
                days = play(book, position)
                if days is not None:
                    long += days > 10 ** 28
                    self.same(days, min(tight_by_hand(book, position).values()))
                    self.same([is_safe(loosened(book, position, more)) for more in (days, days + 1)], [True, False])
        self.assertGreater(long, 20)


class Loosened(Case):
    def test_example(self):
        self.same([play(row(), 1), tight_pair(row(), 1), play(row(), 0), tight_pair(row(), 0)],
                  [9, ("disc", "net"), None, None])
        found = loosened(row(), 1, 9)
        self.same([found.calendar.clauses(), found.names()], [[("day", "p", 0), ("p", "q", -51)], row().names()])
        self.same([found[name] == row()[name] for name in found.names()], [True] * 3)

    def test_by_no_days(self):
        for position in (0, 1):
            self.assertIs(loosened(row(), position, 0) == row(), True)
            self.same(loosened(row(), position, 0).calendar.clauses(), row().calendar.clauses())

    def test_one_twice_stays_at_its_first_place(self):
        self.same(loosened(twice(3, 9, 5), 0, 2).calendar.clauses(), [("m", "day", 5), ("m", "day", 9)])
        self.same(loosened(twice(5, 9, 3), 2, 2).calendar.clauses(), [("m", "day", 5), ("m", "day", 9)])
        self.same(loosened(twice(9, 3, 5), 1, 2).calendar.clauses(), [("m", "day", 9), ("m", "day", 5)])
        self.same(loosened(twice(9, 3, 5), 1, 3).calendar.clauses(),
                  [("m", "day", 9), ("m", "day", 6), ("m", "day", 5)])

    def test_a_clause_beside_which_another_one_does(self):
        # Both say that a ends ahead of b; the weaker one can go, and the stronger one then only down to it.
        self.same([play(twice(9, 16), 0), play(twice(9, 16), 1)], [None, None])
        self.same([play(twice(9, 17), 0), play(twice(9, 17), 1)], [7, None])
        self.same([play(twice(16), 0), play(twice(9), 0), tight_pair(twice(9), 0)], [0, 7, ("a", "b")])

    def test_a_clause_that_is_an_own_one_too(self):
        calendar = Calendar(["m"], [("m", "day", 9)])
        book = Book(calendar, [deal("a", ("m", 0), ("m", 3)), deal("b", ("m", 1), ("day", 10), "y"),
                               deal("c", ("day", 20), ("day", 30))])
        self.same([book["b"].own_clause(), len(book.clauses())], [("m", "day", 9), 1])
        self.same([play(book, 0), tight_pair(book, 0)], [None, None])
        found = loosened(book, 0, 50)
        self.same([found.calendar.clauses(), found.clauses()],
                  [[("m", "day", 59)], [("m", "day", 59), ("m", "day", 9)]])
        self.assertIs(is_safe(found), True)
        self.same([play(book.without("b"), 0), tight_pair(book.without("b"), 0)], [7, ("a", "c")])

    def test_more_clauses_than_a_book_can_have(self):
        clauses = [("m", "day", at) for at in range(40)]
        book = Book(Calendar(["m"], clauses), [deal("b", ("m", 1), ("day", 10))])
        self.same(len(book.clauses()), 40)
        self.raised(TooMany, lambda: loosened(book, 9, 100), what="clauses", limit=40)
        self.same(len(loosened(book, 9, 1).clauses()), 40)
        self.same([play(book, 9), tight_pair(book, 9)], [None, None])

    def test_tight_pair_is_the_least_one(self):
        book = Book(Calendar(["m"], [("m", "day", 9)]),
                    [deal("b", ("m", 0), ("m", 3)), deal("a", ("day", 20), ("day", 30)),
                     deal("c", ("day", 20), ("day", 21), "y"), deal("d", ("m", 0), ("m", 3), "y"),
                     deal("e", ("day", 40), ("day", 41), "xy")])
        self.same([play(book, 0), tight_pair(book, 0)], [7, ("b", "a")])
        self.same([play(book.without("a"), 0), tight_pair(book.without("a"), 0)], [7, ("d", "c")])
        self.same([play(book.without("a", "c"), 0), tight_pair(book.without("a", "c"), 0)], [27, ("b", "e")])


class Wrong(Case):
    def test_positions(self):
        calls = (play, tight_pair, lambda book, position: loosened(book, position, None))
        for value in ODD_VALUES + ["1", 2, -2, (0,), 10 ** 29]:
            if type(value) is not int or not 0 <= value < 2:
                for call in calls:
                    self.raised(InvalidNumber, lambda: call(row(), value), value=value)
        bare = Book(Calendar([], []), [])
        for call in calls:
            self.raised(InvalidNumber, lambda: call(bare, 0), value=0)
            self.raised(InvalidNumber, lambda: call(row(), False), value=False)

    def test_days(self):
        for value in ODD_VALUES + [-10 ** 29, "3"]:
            if type(value) is not int or value < 0:
                self.raised(InvalidNumber, lambda: loosened(row(), 0, value), value=value)
                self.raised(InvalidNumber, lambda: loosened(row(), 2, value), value=2)

    def test_not_safe_is_behind(self):
        for call in (play, tight_pair):
            self.raised(NotSafe, lambda: call(open_row(), 0), one="b", other="c")
            for value in (1, -1, True, None):
                self.raised(InvalidNumber, lambda: call(open_row(), value), value=value)
        self.same(loosened(open_row(), 0, 4).calendar.clauses(), [("m", "day", 13)])

    def test_by_name(self):
        book = row()
        self.same([play(position=1, book=book), tight_pair(position=1, book=book)], [9, ("disc", "net")])
        self.same(loosened(days=1, position=1, book=book).calendar.clauses(), [("day", "p", 0), ("p", "q", -59)])
        self.same(repr(book), repr(row()))
