"""[33] and [34]: some deals on one day, against all dates gone through one by one; papers and errors of it."""

import itertools

from letdays.books import Book
from letdays.calendars import Calendar
from letdays.errors import InvalidDates, InvalidNames
from letdays.together import all_on, are_surely_on, first_apart, is_quiet, is_safe, is_together_paper, open_pairs
from tests.support import Case, ODD_VALUES, ahead_by_hand, deal, keeps, lots_of, open_books, open_by_hand, point_day
from tests.support import small_books, wrong_dates, wrong_names

BIG = 10 ** 29


def first_days(book, names, dates):
    return [point_day(dates, book[name].begin) for name in names]


def last_days(book, names, dates):
    return [point_day(dates, book[name].end) for name in names]


def are_on(book, names, dates):
    """Whether there is a day in dates on which all of these deals are on."""
    return max(first_days(book, names, dates)) <= min(last_days(book, names, dates))


def is_paper_by_hand(book, names, dates, day):
    if not keeps(dates, book.clauses()):
        return False
    return max(first_days(book, names, dates)) <= day <= min(last_days(book, names, dates))


def clash_pairs(book, dates):
    """The pairs of deals that touch and are on together in dates."""
    return [pair for pair in book.touching() if are_on(book, pair, dates)]


def shapes_of(lot):
    """The lot as a list and as a tuple, and in another sequence."""
    return [lot, tuple(lot), lot[::-1], tuple(lot[1:] + lot[:1])]


class AgainstAllDates(Case):
    def test_all_on(self):
        told = [0, 0]
        for book, every in small_books(61, 40):
            for lot in lots_of(book.names())[1:]:
                expected = any(are_on(book, lot, dates) for dates in every)
                told[expected] += 1
                for names in shapes_of(lot):
                    paper = all_on(book, names)
                    if not expected:
                        self.assertIsNone(paper)
                        continue
                    self.same([type(paper), len(paper), type(paper[0]), type(paper[1])], [tuple, 2, dict, int])
                    self.same(list(paper[0]), ["m", "n"])
                    self.assertTrue(is_paper_by_hand(book, lot, *paper))
                    self.assertIs(is_together_paper(book, names, paper), True)
        self.assertGreater(min(told), 50)

    def test_two_by_two_is_all(self):
        for book, _ in small_books(62, 40, names="abcde"):
            for lot in lots_of(book.names())[1:]:
                pairs = [list(pair) for pair in itertools.combinations(lot, 2)]
                self.assertIs(all_on(book, lot) is not None, all(all_on(book, pair) is not None for pair in pairs))

    def test_is_together_paper(self):
        told = [0, 0]
        for book, every in small_books(63, 12, names="abc"):
            for lot in lots_of(book.names())[1:]:
                for dates in every:
                    for day in range(-4, 12):
                        expected = is_paper_by_hand(book, lot, dates, day)
                        told[expected] += 1
                        self.assertIs(is_together_paper(book, lot, (dates, day)), expected)
        self.assertGreater(min(told), 1000)

    def test_first_apart(self):
        told = [0, 0]
        for book, every in small_books(64, 40):
            for lot in lots_of(book.names())[1:]:
                apart = [pair for pair in itertools.combinations(lot, 2)
                         if not any(are_on(book, pair, dates) for dates in every)]
                expected = min(apart, default=None)
                told[expected is None] += 1
                for names in shapes_of(lot):
                    self.same(first_apart(book, names), expected)
        self.assertGreater(min(told), 50)

    def test_are_surely_on(self):
        told = [0, 0]
        for book, every in small_books(65, 60):
            for lot in lots_of(book.names())[1:]:
                expected = all(are_on(book, lot, dates) for dates in every)
                told[expected] += 1
                for names in shapes_of(lot):
                    self.assertIs(are_surely_on(book, names), expected)
        self.assertGreater(min(told), 50)

    def test_open_pairs(self):
        told = [0, 0]
        for book, every in small_books(66, 80):
            expected = [pair for pair in book.touching() if any(are_on(book, pair, dates) for dates in every)]
            told[expected == []] += 1
            self.same(open_pairs(book), expected)
            self.assertIs(is_safe(book), expected == [])
        self.assertGreater(min(told), 2)

    def test_open_pairs_by_rows(self):
        for book in open_books(67, 60):
            expected = open_by_hand(book, ahead_by_hand(book))
            self.same(open_pairs(book), expected)
            self.assertIs(is_safe(book), expected == [])

    def test_is_quiet(self):
        told = [0, 0]
        for book, every in small_books(68, 60, names="abc"):
            for dates in every:
                expected = clash_pairs(book, dates) == []
                told[expected] += 1
                self.assertIs(is_quiet(book, dates), expected)
        self.assertGreater(min(told), 50)


class WithoutEnds(Case):
    def test_all_on_without_bounds(self):
        for book in open_books(69, 40):
            ahead = ahead_by_hand(book)
            for lot in lots_of(book.names())[1:]:
                apart = [pair for pair in itertools.combinations(lot, 2) if pair in ahead or pair[::-1] in ahead]
                paper = all_on(book, lot)
                self.assertIs(paper is None, apart != [])
                self.same(first_apart(book, lot), min(apart, default=None))
                if paper is not None:
                    self.assertTrue(is_paper_by_hand(book, lot, *paper))

    def test_one_deal(self):
        book = Book(Calendar(["m"], []), [deal("a", ("m", 0), ("day", 3))])
        self.same([first_apart(book, ["a"]), are_surely_on(book, ["a"])], [None, True])
        self.assertTrue(is_paper_by_hand(book, ["a"], *all_on(book, ["a"])))

    def test_without_moments(self):
        book = Book(Calendar([], []), [deal("a", ("day", 0), ("day", 3)), deal("b", ("day", 3), ("day", 9)),
                                       deal("c", ("day", 4), ("day", 4))])
        self.same([all_on(book, ["b", "a"]), all_on(book, ["a", "c"])], [({}, 3), None])
        self.same([are_surely_on(book, ["a", "b"]), are_surely_on(book, ["a", "b", "c"])], [True, False])
        self.same([first_apart(book, ["c", "b", "a"]), first_apart(book, ["c", "b"])], [("a", "c"), None])
        self.assertIs(is_together_paper(book, ["a"], ({}, 0)), True)

    def test_great_numbers(self):
        calendar = Calendar(["m"], [("m", "day", BIG), ("day", "m", -BIG)])
        book = Book(calendar, [deal("a", ("m", 1 - BIG), ("m", 0)), deal("b", ("day", BIG), ("day", BIG + 1))])
        self.same(all_on(book, ["a", "b"]), ({"m": BIG}, BIG))
        self.assertIs(are_surely_on(book, ["a", "b"]), True)

    def test_empty_book(self):
        book = Book(Calendar(["m"], []), [])
        self.same([is_safe(book), open_pairs(book), is_quiet(book, {"m": -7})], [True, [], True])
        self.raised(InvalidNames, lambda: all_on(book, []), position=None)
        self.raised(InvalidNames, lambda: all_on(book, ["a"]), position=0)


class Papers(Case):
    def book(self):
        calendar = Calendar(["m"], [("day", "m", 0), ("m", "day", 9)])
        return Book(calendar, [deal("a", ("m", 0), ("m", 4)), deal("b", ("day", 6), ("day", 8)),
                               deal("c", ("m", -1), ("day", 20))])

    def test_right_and_spoilt_ones(self):
        for names in (["a", "b"], ("b", "a"), ["c", "a", "b"]):
            for value in (({"m": 2}, 6), ({"m": 4}, 6), ({"m": 4}, 8), ({"m": 8}, 8)):
                self.assertIs(is_together_paper(self.book(), names, value), True)
            for value in (({"m": 2}, 7), ({"m": 2}, 5), ({"m": 4}, 9), ({"m": 9}, 8), ({"m": 10}, 8), ({"m": -1}, 6),
                          ({"m": 4}, None), ({"m": 4}, "6"), ({"m": 4}, True), ({}, 6), ({"m": 4, "n": 0}, 6),
                          ({"m": 4, "day": 0}, 6), ({"n": 4}, 6), [{"m": 4}, 6], ({"m": 4},), ({"m": 4}, 6, 6),
                          (6, {"m": 4}), {"m": 4}, ([("m", 4)], 6), ({"m": "4"}, 6), (None, None)):
                self.assertIs(is_together_paper(self.book(), names, value), False, value)

    def test_values_of_any_kind(self):
        for value in ODD_VALUES:
            self.assertIs(is_together_paper(self.book(), ["a"], value), False)
            self.assertIs(is_together_paper(self.book(), ["a"], (value, 6)), False)
            self.assertIs(is_together_paper(self.book(), ["a"], ({"m": value}, 1)), value in (0, 1) and value is not
                          True and value is not False)
            self.assertIs(is_together_paper(self.book(), ["a"], ({"m": 0}, value)), value in (0, 1) and value is not
                          True and value is not False)

    def test_true_is_not_one(self):
        self.assertIs(is_together_paper(self.book(), ["a"], ({"m": 1}, 1)), True)
        self.assertIs(is_together_paper(self.book(), ["a"], ({"m": True}, 1)), False)
        self.assertIs(is_together_paper(self.book(), ["a"], ({"m": 1}, True)), False)

    def test_own_clauses_must_be_kept(self):
        book = Book(Calendar(["m"], []), [deal("a", ("day", 0), ("day", 9)), deal("b", ("m", 0), ("day", 3))])
        self.assertIs(is_together_paper(book, ["a"], ({"m": 3}, 9)), True)
        self.assertIs(is_together_paper(book, ["a"], ({"m": 4}, 9)), False)

    def test_returned_values_are_new(self):
        book = self.book()
        first = all_on(book, ["a", "b"])
        first[0].clear()
        self.assertTrue(is_paper_by_hand(book, ["a", "b"], *all_on(book, ["a", "b"])))
        open_pairs(book).clear()
        self.same(open_pairs(book), [("a", "b"), ("a", "c"), ("b", "c")])
        names = ["a", "b"]
        self.same(all_on(book, names), all_on(book, names))
        self.same(names, ["a", "b"])

    def test_by_name(self):
        book = self.book()
        self.same(all_on(names=["a", "b"], book=book), all_on(book, ["a", "b"]))
        self.same(first_apart(names=["a", "b"], book=book), None)
        self.same(are_surely_on(names=["b", "c"], book=book), True)
        self.same(is_together_paper(value=({"m": 2}, 6), names=["a", "b"], book=book), True)
        self.same([is_safe(book=book), open_pairs(book=book)], [False, open_pairs(book)])
        self.same(is_quiet(dates={"m": 9}, book=book), False)


class Wrong(Case):
    CALLS = (all_on, first_apart, are_surely_on, lambda book, names: is_together_paper(book, names, None))

    def test_names(self):
        book = Papers().book()
        for call in self.CALLS:
            for value, position in wrong_names(["a", "b"]) + [([], None), ((), None)]:
                self.raised(InvalidNames, lambda: call(book, value), position=position)
            self.raised(InvalidNames, lambda: call(book, ["c", "d", "c"]), position=1)

    def test_dates(self):
        book = Papers().book()
        for value in wrong_dates(book) + [{"m": 10}, {"m": -1}]:
            self.raised(InvalidDates, lambda: is_quiet(book, value), value=value)
