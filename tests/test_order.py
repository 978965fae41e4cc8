"""[41]: which deal is surely ahead of which other one, against all rows and all dates gone through one by one."""

import itertools

from letdays.books import Book
from letdays.calendars import Calendar
from letdays.errors import InvalidNames, UnknownDeal
from letdays.order import (Order, ahead_row, all_ahead, all_behind, direct_pairs, in_sequence, is_ahead, is_ahead_row,
                           least_gap)
from tests.support import Anything, Case, ODD_VALUES, ahead_by_hand, bound_by_hand, deal, is_row_by_hand, lots_of
from tests.support import open_books, point_day, rows_by_hand, small_books, total, wrong_names

BIG = 10 ** 29


def gaps(book, one, other, every):
    """For all dates the number of days behind the end of one and ahead of the begin of other."""
    return [point_day(dates, book[other].begin) - point_day(dates, book[one].end) - 1 for dates in every]


def sequence_by_hand(names, ahead):
    """The least of the sequences in which each name is behind those that are ahead of it."""
    rows = [list(row) for row in itertools.permutations(names)]
    return min(row for row in rows
               if not any((later, name) in ahead for at, name in enumerate(row) for later in row[at:]))


def direct_by_hand(ahead):
    return [pair for pair in ahead
            if not any(one == pair[0] and (other, pair[1]) in ahead for one, other in ahead)]


def line():
    """The book of the document's example."""
    calendar = Calendar(["m", "n"], [("day", "m", -10), ("m", "n", -30)])
    return Book(calendar, [deal("a", ("m", 0), ("m", 24)), deal("b", ("n", 0), ("n", 9)),
                           deal("c", ("day", 0), ("n", -25))])


def row_of(count):
    """So many deals, one behind another, the last name first."""
    names = "jihgfedcba"[:count]
    return Book(Calendar([], []), [deal(name, ("day", 2 * at), ("day", 2 * at + 1)) for at, name in enumerate(names)])


class AgainstAllDates(Case):
    def test_is_ahead_and_least_gap(self):
        told = [0, 0]
        for book, every in small_books(81, 80):
            for one, other in itertools.product(book.names(), repeat=2):
                days = gaps(book, one, other, every)
                expected = min(days) >= 0
                told[expected] += 1
                self.assertIs(is_ahead(book, one, other), expected)
                self.same(least_gap(book, one, other), min(days) if expected else None)
        self.assertGreater(min(told), 50)

    def test_rows(self):
        told = [0, 0]
        for book in [book for book, _ in small_books(82, 30)] + open_books(83, 60):
            for one, other in itertools.product(book.names(), repeat=2):
                self.check_rows(book, one, other, told)
        self.assertGreater(min(told), 50)

    def check_rows(self, book, one, other, told):
        start, goal = book[one].end, book[other].begin
        most = bound_by_hand(book.clauses(), start[0], goal[0])
        expected = most is not None and most < goal[1] - start[1]
        told[expected] += 1
        self.assertIs(is_ahead(book, one, other), expected)
        row = ahead_row(book, one, other)
        if expected:
            self.assertIs(type(row), list)
            self.assertTrue(is_row_by_hand(book.clauses(), start[0], goal[0], row))
            self.same(total(row), most)
            self.same(least_gap(book, one, other), goal[1] - start[1] - most - 1)
        else:
            self.same([row, least_gap(book, one, other)], [None, None])
        for told_row in rows_by_hand(book.clauses(), start[0], goal[0]):
            is_one = total(told_row) < goal[1] - start[1]
            self.assertIs(is_ahead_row(book, one, other, told_row), is_one)
            self.assertIs(is_ahead_row(book, one, other, tuple(told_row)), is_one)

    def test_lists_and_pairs(self):
        longest = 0
        for book in [book for book, _ in small_books(84, 30)] + open_books(85, 60, names="abcde"):
            ahead = ahead_by_hand(book)
            for name in book.names():
                self.same(all_ahead(book, name), [one for one in book.names() if (one, name) in ahead])
                self.same(all_behind(book, name), [other for other in book.names() if (name, other) in ahead])
            self.same(direct_pairs(book), direct_by_hand(ahead))
            longest = max(longest, len(ahead) - len(direct_pairs(book)))
        self.assertGreater(longest, 1)

    def test_in_sequence(self):
        for book in [book for book, _ in small_books(86, 15)] + open_books(87, 25):
            ahead = ahead_by_hand(book)
            for lot in lots_of(book.names()):
                expected = sequence_by_hand(lot, ahead)
                for names in (lot, tuple(lot), lot[::-1], tuple(lot[1:] + lot[:1])):
                    self.same(list(in_sequence(book, names)), expected)

    def test_it_is_an_order(self):
        for book in open_books(88, 60, names="abcde"):
            pairs = list(Order(book))
            for one, other in pairs:
                self.assertNotEqual(one, other)
                self.assertNotIn((other, one), pairs)
                for third, fourth in pairs:
                    if third == other:
                        self.assertIn((one, fourth), pairs)


class InSequence(Case):
    def test_is_a_generator(self):
        found = in_sequence(line(), ["b", "a", "c"])
        self.assertIs(iter(found), found)
        self.same([next(found), next(found), next(found), next(found, None)], ["a", "c", "b", None])
        self.same(list(in_sequence(line(), [])), [])
        self.same(list(in_sequence(names=("b",), book=line())), ["b"])

    def test_ten_in_a_row(self):
        book = row_of(10)
        self.same(list(in_sequence(book, book.names())), list("jihgfedcba"))
        self.same(list(in_sequence(book, ["a", "j", "e"])), ["j", "e", "a"])

    def test_names_are_not_changed(self):
        names = ["b", "a", "c"]
        found = in_sequence(line(), names)
        first = next(found)
        names.clear()
        self.same([first] + list(found), ["a", "c", "b"])
        names = ["b", "a", "c"]
        list(in_sequence(line(), names))
        self.same(names, ["b", "a", "c"])

    def test_wrong_names(self):
        for value, position in wrong_names(["a", "b"]):
            self.raised(InvalidNames, lambda: next(in_sequence(line(), value)), position=position)


class Rows(Case):
    def test_spoilt_rows(self):
        book, row = line(), [("m", "n", -30)]
        for value in (row, tuple(row)):
            self.assertIs(is_ahead_row(book, "a", "b", value), True)
            self.assertIs(is_ahead_row(book, "b", "a", value), False)
        for value in ([], (), row + row, row[0], [("m", "n", -31)], [["m", "n", -30]], [("n", "m", -30)],
                      [("day", "m", -10)], [("day", "m", -10)] + row, row + [("day", "m", -10)], {0: row[0]}, None):
            self.assertIs(is_ahead_row(book, "a", "b", value), False, value)
        for value in ODD_VALUES:
            for spoilt in (value, [value], [("m", "n", value)], [(value, "n", -30)], [("m", value, -30)]):
                self.assertIs(is_ahead_row(book, "a", "b", spoilt), False)
            empty = isinstance(value, (list, tuple)) and len(value) == 0
            self.assertIs(is_ahead_row(book, "c", "b", value), empty)

    def test_own_clauses_may_be_used(self):
        book = Book(Calendar(["m"], []), [deal("a", ("day", 9), ("m", 0)), deal("b", ("day", 0), ("day", 3)),
                                          deal("c", ("m", 20), ("m", 21))])
        self.same(book.clauses(), [("day", "m", -9)])
        self.same(ahead_row(book, "b", "c"), [("day", "m", -9)])
        self.assertIs(is_ahead_row(book, "b", "c", [("day", "m", -9)]), True)
        self.same(least_gap(book, "b", "c"), 25)

    def test_the_edge(self):
        for number, gap in ((-26, 1), (-25, 0), (-24, None)):
            book = Book(Calendar(["m", "n"], [("m", "n", number)]), [line()["a"], line()["b"]])
            self.same([is_ahead(book, "a", "b"), least_gap(book, "a", "b")], [gap is not None, gap])
            self.same(is_ahead_row(book, "a", "b", [("m", "n", number)]), gap is not None)
            self.same(ahead_row(book, "a", "b"), None if gap is None else [("m", "n", number)])
            self.same(("a", "b") in Order(book), gap is not None)

    def test_true_is_not_one(self):
        book = Book(Calendar(["m", "n"], [("m", "n", 1)]), [deal("a", ("m", 0), ("m", 1)),
                                                            deal("b", ("n", 3), ("n", 4))])
        self.assertIs(is_ahead_row(book, "a", "b", [("m", "n", 1)]), True)
        self.assertIs(is_ahead_row(book, "a", "b", [("m", "n", True)]), False)

    def test_great_numbers(self):
        book = Book(Calendar(["m"], [("m", "day", -BIG)]), [deal("a", ("m", 0), ("m", 3)),
                                                            deal("b", ("day", 5), ("day", 5))])
        self.same([least_gap(book, "a", "b"), ahead_row(book, "a", "b")], [BIG + 1, [("m", "day", -BIG)]])

    def test_same_deal(self):
        for name in "abc":
            self.same([is_ahead(line(), name, name), ahead_row(line(), name, name), least_gap(line(), name, name)],
                      [False, None, None])
            self.assertIs(is_ahead_row(line(), name, name, []), False)

    def test_returned_lists_are_new(self):
        book = line()
        for call in (lambda: ahead_row(book, "a", "b"), lambda: all_ahead(book, "b"), lambda: all_behind(book, "a"),
                     lambda: direct_pairs(book)):
            first = call()
            told = list(first)
            first.clear()
            self.same(call(), told)

    def test_by_name(self):
        book = line()
        self.same([is_ahead(other="b", one="a", book=book), least_gap(other="b", one="a", book=book)], [True, 5])
        self.same(ahead_row(other="b", one="a", book=book), [("m", "n", -30)])
        self.same(is_ahead_row(value=[("m", "n", -30)], other="b", one="a", book=book), True)
        self.same([all_ahead(name="b", book=book), all_behind(name="a", book=book)], [["a", "c"], ["b"]])
        self.same(direct_pairs(book=book), [("a", "b"), ("c", "b")])


class Orders(Case):
    def test_against_the_functions(self):
        for book in [book for book, _ in small_books(89, 20)] + open_books(90, 30):
            order, ahead = Order(book), ahead_by_hand(book)
            self.assertIs(order.book, book)
            self.same([len(order), list(order), [pair for pair in order]], [len(ahead), ahead, ahead])
            for one in book.names():
                self.same(order[one], all_behind(book, one))
                for other in book.names():
                    self.assertIs((one, other) in order, (one, other) in ahead)

    def test_in_for_any_value(self):
        order = Order(line())
        for value in (("a", "b"), ("c", "b")):
            self.assertIs(value in order, True)
        for value in (("b", "a"), ("a", "c"), ("a", "a"), ["a", "b"], ("a", "b", "c"), ("a",), ("A", "b"), ("a", "z"),
                      "ab", ("a", ["b"]), (["a"], "b"), {"a": "b"}, "a", ("a", None), (("a", "b"),)):
            self.assertIs(value in order, False, value)
        for value in ODD_VALUES:
            for pair in (value, (value, "b"), ("a", value), (value, value)):
                self.assertIs(pair in order, pair == ("a", "b"))

    def test_a_value_that_is_equal_to_any(self):
        order, any_value = Order(line()), Anything()
        for value in (any_value, (any_value, "b"), ("a", any_value), (any_value, any_value)):
            self.assertIs(value in order, False)
        with self.assertRaises(UnknownDeal):
            order[any_value]

    def test_item(self):
        order = Order(line())
        self.same([order["a"], order["b"], order["c"]], [["b"], [], ["b"]])
        order["a"].append("x")
        self.same(order["a"], ["b"])
        for value in ODD_VALUES + ["z", "ab", ("a", "b"), line()["a"], 2]:
            if value != "a":
                self.raised(UnknownDeal, lambda: order[value], value=value)

    def test_equal(self):
        book = line()
        twin = Book(Calendar(["x"], []), [deal("c", ("x", 0), ("x", 0)), deal("a", ("x", 0), ("x", 1), price=7),
                                          deal("b", ("x", 2), ("x", 3), "y")])
        self.assertIs(Order(book) == Order(line()), True)
        self.assertIs(Order(book) == Order(twin), True)
        self.assertIs(Order(book) != Order(twin), False)
        fewer = twin.without("c")
        more = twin.with_deal(deal("d", ("day", 0), ("x", 0)))
        other = Book(Calendar(["x"], []), [deal("c", ("x", 0), ("x", 0)), deal("a", ("x", 0), ("x", 2)), twin["b"]])
        for wrong in (fewer, more, other, Book(Calendar([], []), [])):
            self.assertIs(Order(book) == Order(wrong), False)
            self.assertIs(Order(wrong) == Order(book), False)
        for value in ODD_VALUES + [book, list(Order(book)), tuple(Order(book))]:
            self.assertIs(Order(book) == value, False)
            self.assertIs(value == Order(book), False)

    def test_names_without_pairs_count(self):
        one = Book(Calendar([], []), [deal("a", ("day", 0), ("day", 1))])
        other = Book(Calendar([], []), [deal("b", ("day", 0), ("day", 1))])
        self.assertIs(Order(one) == Order(other), False)
        self.same([len(Order(one)), list(Order(one)), Order(one)["a"]], [0, [], []])

    def test_empty_book(self):
        order = Order(book=Book(Calendar(["m"], []), []))
        self.same([len(order), list(order), bool(order)], [0, [], False])
        self.raised(UnknownDeal, lambda: order["a"], value="a")

    def test_ten_in_a_row(self):
        order = Order(row_of(10))
        self.same([len(order), len(direct_pairs(row_of(10)))], [45, 9])
        self.same([order["a"], order["c"], order["j"]], [[], ["a", "b"], list("abcdefghi")])
        self.same(list(order), sorted(order))


class Wrong(Case):
    def test_unknown_deals(self):
        book = line().without("c")
        for call in (is_ahead, ahead_row, least_gap, lambda book, one, other: is_ahead_row(book, one, other, None)):
            for value in ODD_VALUES + ["c", "ab", book["a"], ["b"]]:
                if value != "a":
                    self.raised(UnknownDeal, lambda: call(book, value, "b"), value=value)
                    self.raised(UnknownDeal, lambda: call(book, "a", value), value=value)
            self.raised(UnknownDeal, lambda: call(book, "y", "z"), value="y")
        for call in (all_ahead, all_behind):
            for value in ODD_VALUES + ["c", "ab"]:
                if value != "a":
                    self.raised(UnknownDeal, lambda: call(book, value), value=value)
