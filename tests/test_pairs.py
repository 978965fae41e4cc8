"""[31], [32], [33] and the guarantee "two by two": two deals of a book, against all dates gone through one by one."""

from letdays.books import Book
from letdays.calendars import Calendar
from letdays.errors import SameDeal, UnknownDeal
from letdays.pairs import (apart_paper, clash, dates_apart, is_apart_paper, is_surely_paper, reach, surely_paper,
                           together_paper, word, words)
from tests.support import Case, ODD_VALUES, deal, is_row_by_hand, keeps, point_day, small_books, total

BIG = 10 ** 30 - 1

YEAR = Calendar(["show"], [("show", "day", 40), ("day", "show", -10)])
HALLS = deal("halls", ("show", 0), ("show", 29), "xy")
DISCS = deal("discs", ("show", 30), ("day", 100))
NET = deal("net", ("day", 60), ("day", 90), alone=False)


def year():
    return Book(YEAR, [HALLS, DISCS, NET])


def meets(one, other, dates):
    """Whether there is a day in dates on which both deals are on."""
    return (point_day(dates, one.begin) <= point_day(dates, other.end)
            and point_day(dates, other.begin) <= point_day(dates, one.end))


def word_by_hand(one, other, every):
    found = [meets(one, other, dates) for dates in every]
    return "surely" if all(found) else "perhaps" if any(found) else "never"


def reach_by_hand(one, other, every):
    return max(point_day(dates, one.end) - point_day(dates, other.begin) for dates in every)


def is_row_from(book, point, other, value, most):
    """Whether a value is a row between the moments of the points which adds up to at most so much."""
    if not isinstance(value, (list, tuple)) or not is_row_by_hand(book.clauses(), point[0], other[0], value):
        return False
    return total(value) + point[1] - other[1] <= most


class AgainstAllDates(Case):
    def test_words(self):
        told = {"never": 0, "perhaps": 0, "surely": 0}
        for book, every in small_books(51, 80):
            table = {}
            for one in book:
                for other in book:
                    expected = word_by_hand(one, other, every)
                    told[expected] += 1
                    self.same(word(book, one.name, other.name), expected)
                    if one.name < other.name:
                        table[(one.name, other.name)] = expected
            self.same(words(book), table)
        self.assertGreater(min(told.values()), 50)

    def test_clashes(self):
        told = {"apart": 0, "never": 0, "perhaps": 0, "surely": 0}
        for book, every in small_books(52, 60):
            for one in book:
                for other in book:
                    if one.name != other.name:
                        common = [cell for cell in one.cells() if cell in other.cells()]
                        touch = common and (one.alone or other.alone)
                        expected = word_by_hand(one, other, every) if touch else "apart"
                        told[expected] += 1
                        self.same(clash(book, one.name, other.name), expected)
        self.assertGreater(min(told.values()), 20)

    def test_reach(self):
        for book, every in small_books(53, 60):
            for one in book:
                for other in book:
                    self.same(reach(book, one.name, other.name), reach_by_hand(one, other, every))

    def test_papers(self):
        for book, every in small_books(54, 60):
            for one in book:
                for other in book:
                    self.check_papers(book, one, other, word_by_hand(one, other, every))

    def check_papers(self, book, one, other, expected):
        self.check_apart(book, one, other, expected == "never")
        self.check_together(book, one, other, expected != "never")
        self.check_surely(book, one, other, expected == "surely")
        dates = dates_apart(book, one.name, other.name)
        if expected == "surely":
            self.assertIsNone(dates)
        else:
            self.assertTrue(dates in book.full())
            self.same(list(dates), book.calendar.moments())
            self.assertTrue(keeps(dates, book.clauses()))
            self.assertFalse(meets(one, other, dates))

    def check_apart(self, book, one, other, expected):
        paper = apart_paper(book, one.name, other.name)
        if not expected:
            self.assertIsNone(paper)
            return
        self.same([type(paper), len(paper), type(paper[2])], [tuple, 3, list])
        ahead, behind, row = paper
        self.assertEqual(sorted([ahead, behind]), sorted([one.name, other.name]))
        self.assertTrue(is_row_from(book, book[ahead].end, book[behind].begin, row, -1))
        self.assertIs(is_apart_paper(book, one.name, other.name, paper), True)
        self.assertIs(is_apart_paper(book, other.name, one.name, (ahead, behind, tuple(row))), True)
        self.assertIs(is_apart_paper(book, one.name, other.name, (behind, ahead, row)), False)

    def check_together(self, book, one, other, expected):
        paper = together_paper(book, one.name, other.name)
        if not expected:
            self.assertIsNone(paper)
            return
        self.same([type(paper), len(paper), type(paper[0]), type(paper[1])], [tuple, 2, dict, int])
        dates, day = paper
        self.same(list(dates), book.calendar.moments())
        self.assertTrue(keeps(dates, book.clauses()))
        self.assertTrue(one.is_on(dates, day) and other.is_on(dates, day))

    def check_surely(self, book, one, other, expected):
        paper = surely_paper(book, one.name, other.name)
        if not expected:
            self.assertIsNone(paper)
            return
        self.same([type(paper), len(paper), type(paper[0]), type(paper[1])], [tuple, 2, list, list])
        self.assertTrue(is_row_from(book, one.begin, other.end, paper[0], 0))
        self.assertTrue(is_row_from(book, other.begin, one.end, paper[1], 0))
        self.assertIs(is_surely_paper(book, one.name, other.name, paper), True)
        self.assertIs(is_surely_paper(book, one.name, other.name, (tuple(paper[0]), tuple(paper[1]))), True)
        self.assertIs(is_surely_paper(book, other.name, one.name, (paper[1], paper[0])), True)

    def test_rows_that_are_papers(self):
        """Each list of at most two clauses is a paper exactly if adding says so."""
        told = {True: 0, False: 0}
        for book, _ in small_books(55, 40):
            clauses = book.clauses()
            rows = [[]] + [[one] for one in clauses] + [[one, other] for one in clauses for other in clauses]
            for one, other in (("a", "b"), ("c", "a"), ("b", "d"), ("d", "d")):
                for row in rows:
                    expected = is_row_from(book, book[one].end, book[other].begin, row, -1)
                    told[expected] += 1
                    self.assertIs(is_apart_paper(book, one, other, (one, other, row)), expected)
                    self.assertIs(is_apart_paper(book, other, one, (one, other, row)), expected)
                    self.check_row_of_surely(book, one, other, row)
        self.assertGreater(min(told.values()), 10)

    def check_row_of_surely(self, book, one, other, row):
        paper = surely_paper(book, one, other)
        if paper is not None:
            first = is_row_from(book, book[one].begin, book[other].end, row, 0)
            second = is_row_from(book, book[other].begin, book[one].end, row, 0)
            self.assertIs(is_surely_paper(book, one, other, (row, paper[1])), first)
            self.assertIs(is_surely_paper(book, one, other, (paper[0], row)), second)


class Words(Case):
    def test_the_year(self):
        self.same(words(year()), {("discs", "halls"): "never", ("discs", "net"): "surely", ("halls", "net"): "perhaps"})
        self.same([clash(year(), "halls", "discs"), clash(year(), "net", "discs"), clash(year(), "net", "halls")],
                  ["never", "surely", "perhaps"])
        self.same([words(Book(YEAR, [])), words(Book(YEAR, [NET]))], [{}, {}])

    def test_a_deal_with_itself(self):
        for name in ("halls", "discs", "net"):
            one = year()[name]
            self.same(word(year(), name, name), "surely")
            self.assertIsNone(apart_paper(year(), name, name))
            self.assertIsNone(dates_apart(year(), name, name))
            dates, day = together_paper(year(), name, name)
            self.assertTrue(dates in year().full() and one.is_on(dates, day))
            forth, back = surely_paper(year(), name, name)
            self.assertTrue(is_row_from(year(), one.begin, one.end, forth, 0))
            self.assertTrue(is_row_from(year(), one.begin, one.end, back, 0))
            self.assertIs(is_surely_paper(year(), name, name, (forth, back)), True)
            self.assertIs(is_apart_paper(year(), name, name, (name, name, [])), False)
        self.same([reach(year(), "halls", "halls"), reach(year(), "discs", "discs"), reach(year(), "net", "net")],
                  [29, 60, 30])

    def test_only_days_are_looked_at(self):
        book = Book(YEAR, [NET, NET.named("other"), deal("far", ("day", 60), ("day", 90), "z")])
        self.same([word(book, "net", "other"), clash(book, "net", "other")], ["surely", "apart"])
        self.same([word(book, "net", "far"), clash(book, "net", "far")], ["surely", "apart"])

    def test_neighbours(self):
        book = Book(Calendar(["m"]), [deal("a", ("m", 0), ("m", 9)), deal("b", ("m", 10), ("m", 19)),
                                      deal("c", ("m", 9), ("m", 9))])
        self.same(words(book), {("a", "b"): "never", ("a", "c"): "surely", ("b", "c"): "never"})
        self.same([reach(book, "a", "b"), reach(book, "b", "a"), reach(book, "a", "c")], [-1, 19, 0])
        self.same([apart_paper(book, "b", "a"), apart_paper(book, "b", "c")], [("a", "b", []), ("c", "b", [])])

    def test_no_end(self):
        book = Book(Calendar(["m", "n"], [("m", "day", 5)]), [
            deal("a", ("m", 0), ("m", 3)), deal("b", ("n", 0), ("n", 1)), deal("c", ("day", 0), ("day", 9))])
        self.assertIsNone(reach(book, "a", "b"))
        self.assertIsNone(reach(book, "b", "a"))
        self.assertIsNone(reach(book, "c", "a"))
        self.same(reach(book, "a", "c"), 8)
        self.same(words(book), {("a", "b"): "perhaps", ("a", "c"): "perhaps", ("b", "c"): "perhaps"})
        for one, other in (("a", "b"), ("a", "c"), ("b", "c")):
            dates, day = together_paper(book, one, other)
            self.assertTrue(dates in book.full())
            self.assertTrue(book[one].is_on(dates, day) and book[other].is_on(dates, day))
            self.assertFalse(meets(book[one], book[other], dates_apart(book, one, other)))
            self.assertIsNone(apart_paper(book, one, other))
            self.assertIsNone(surely_paper(book, one, other))

    def test_own_clauses_count(self):
        calendar = Calendar(["m", "n"], [("m", "day", 10), ("day", "m", 0)])
        one, other = deal("a", ("m", 0), ("m", 5)), deal("b", ("n", 1), ("n", 2))
        self.same(word(Book(calendar, [one, other]), "a", "b"), "perhaps")
        between = deal("c", ("m", 6), ("n", 0), "z")
        book = Book(calendar, [one, other, between])
        self.same(word(book, "a", "b"), "never")
        self.same(apart_paper(book, "b", "a"), ("a", "b", [("m", "n", -6)]))
        self.same(reach(book, "a", "b"), -2)

    def test_thirty_digits(self):
        calendar = Calendar(["m"], [("m", "day", BIG), ("day", "m", BIG)])
        book = Book(calendar, [deal("a", ("m", 0), ("m", BIG)), deal("b", ("day", 2 * BIG), ("day", 2 * BIG)),
                               deal("c", ("day", 2 * BIG + 1), ("day", 3 * BIG))])
        self.same(words(book), {("a", "b"): "perhaps", ("a", "c"): "never", ("b", "c"): "never"})
        self.same([reach(book, "a", "b"), reach(book, "a", "c")], [0, -1])
        self.assertEqual(together_paper(book, "b", "a"), ({"m": BIG}, 2 * BIG))
        self.same(apart_paper(book, "c", "a"), ("a", "c", [("m", "day", BIG)]))

    def test_a_full_book(self):
        clauses = [("m", "day", number) for number in range(20)] + [("day", "m", number) for number in range(20)]
        book = Book(Calendar(["m", "n"], clauses), [deal("a", ("m", 0), ("m", 1)), deal("b", ("n", 0), ("n", 1))])
        self.same(word(book, "a", "b"), "perhaps")
        self.assertTrue(dates_apart(book, "a", "b") in book.full())
        self.assertTrue(together_paper(book, "a", "b")[0] in book.full())

    def test_by_name_and_again(self):
        book = year()
        for call in (word, clash, reach, apart_paper, together_paper, surely_paper, dates_apart):
            for one, other in (("halls", "discs"), ("halls", "net"), ("net", "discs")):
                self.same(call(other=other, one=one, book=book), call(book, one, other))
        self.same(words(book=book), words(book))
        paper = ("halls", "discs", [])
        self.assertIs(is_apart_paper(value=paper, other="discs", one="halls", book=book), True)
        paper = ([("show", "day", 40)], [])
        self.assertIs(is_surely_paper(value=paper, other="net", one="discs", book=book), True)

    def test_returned_values_are_new(self):
        book = year()
        words(book).clear()
        apart_paper(book, "halls", "discs")[2].append(1)
        surely_paper(book, "net", "discs")[0].append(1)
        together_paper(book, "net", "discs")[0].clear()
        self.same([len(words(book)), apart_paper(book, "halls", "discs")], [3, ("halls", "discs", [])])
        self.assertTrue(is_surely_paper(book, "net", "discs", surely_paper(book, "net", "discs")))
        self.assertTrue(together_paper(book, "net", "discs")[0] in book.full())


class SpoiltPapers(Case):
    def book(self):
        calendar = Calendar(["m", "n"], [("m", "n", -10), ("n", "m", 12)])
        return Book(calendar, [deal("a", ("m", 0), ("m", 9)), deal("b", ("n", 0), ("n", 9)),
                               deal("c", ("m", 5), ("n", 3))])

    def test_apart(self):
        row = [("m", "n", -10)]
        self.same(word(self.book(), "a", "b"), "never")
        for one, other in (("a", "b"), ("b", "a")):
            for value in (("a", "b", row), ("a", "b", tuple(row))):
                self.assertIs(is_apart_paper(self.book(), one, other, value), True)
            for value in (("b", "a", row), ("a", "a", row), ("a", "c", row), ("c", "b", row), ["a", "b", row],
                          ("a", "b"), ("a", "b", row, row), ("a", "b", []), ("a", "b", row + row), ("a", "b", row[0]),
                          ("a", "b", [("m", "n", -11)]), ("a", "b", [["m", "n", -10]]), ("a", "b", [("n", "m", 12)]),
                          ("a", "b", row + [("n", "m", 12)]), ("a", "b", None), (None, None, row), ("a", None, row),
                          (["a"], ["b"], row), ("A", "b", row), (0, 1, row), row, {"a": "b"}):
                self.assertIs(is_apart_paper(self.book(), one, other, value), False, value)
            for value in ODD_VALUES:
                self.assertIs(is_apart_paper(self.book(), one, other, value), False)
                self.assertIs(is_apart_paper(self.book(), one, other, ("a", "b", value)), False)
                self.assertIs(is_apart_paper(self.book(), one, other, ("a", "b", [value])), False)
                self.assertIs(is_apart_paper(self.book(), one, other, (value, "b", row)), value == "a")
                self.assertIs(is_apart_paper(self.book(), one, other, ("a", value, row)), False)

    def test_apart_just_below_zero(self):
        for number, expected in ((-11, True), (-10, True), (-9, False), (0, False)):
            row = [("m", "n", number)]
            book = Book(Calendar(["m", "n"], row), [deal("a", ("m", 0), ("m", 9)), deal("b", ("n", 0), ("n", 9))])
            self.assertIs(is_apart_paper(book, "b", "a", ("a", "b", row)), expected)
            self.assertIs(apart_paper(book, "a", "b") is not None, expected)

    def test_true_is_not_one(self):
        calendar = Calendar(["m", "n"], [("m", "n", 1), ("n", "m", 0)])
        book = Book(calendar, [deal("a", ("m", 0), ("m", 1)), deal("b", ("n", 3), ("n", 4))])
        self.assertIs(is_apart_paper(book, "a", "b", ("a", "b", [("m", "n", 1)])), True)
        self.assertIs(is_apart_paper(book, "a", "b", ("a", "b", [("m", "n", True)])), False)
        late = Book(calendar, [deal("a", ("m", 0), ("m", 3)), deal("b", ("n", 1), ("n", 4))])
        self.assertIs(is_surely_paper(late, "a", "b", ([("m", "n", 1)], [("n", "m", 0)])), True)
        self.assertIs(is_surely_paper(late, "a", "b", ([("m", "n", True)], [("n", "m", 0)])), False)
        self.assertIs(is_surely_paper(late, "a", "b", ([("m", "n", 1)], [("n", "m", False)])), False)

    def test_surely(self):
        forth, back = [("show", "day", 40)], []
        for value in ((forth, back), (tuple(forth), ()), (tuple(forth), [])):
            self.assertIs(is_surely_paper(year(), "discs", "net", value), True)
            self.assertIs(is_surely_paper(year(), "net", "discs", (value[1], value[0])), True)
            self.assertIs(is_surely_paper(year(), "net", "discs", value), False)
            self.assertIs(is_surely_paper(year(), "halls", "net", value), False)
        for value in ([forth, back], (forth,), (forth, back, back), (back, forth), (forth, forth), (back, back),
                      ([["show", "day", 40]], back), ([("show", "day", 41)], back), (forth, None), (None, back),
                      (forth + [("day", "show", -10)], back), (forth, [("day", "show", -10), ("show", "day", 40)]),
                      forth, (forth[0], back), {0: forth, 1: back}):
            self.assertIs(is_surely_paper(year(), "discs", "net", value), False, value)
        for value in ODD_VALUES:
            empty = isinstance(value, (list, tuple)) and len(value) == 0
            self.assertIs(is_surely_paper(year(), "discs", "net", value), False)
            self.assertIs(is_surely_paper(year(), "discs", "net", (forth, value)), empty)
            self.assertIs(is_surely_paper(year(), "discs", "net", (value, back)), False)
            self.assertIs(is_surely_paper(year(), "discs", "net", ([value], back)), False)

    def test_surely_at_most_zero(self):
        for number, expected in ((49, True), (50, True), (51, False)):
            row = [("m", "day", number), ("day", "m", 0)]
            book = Book(Calendar(["m"], row), [deal("a", ("m", 0), ("m", 99)), deal("b", ("day", 0), ("day", 50))])
            self.assertIs(is_surely_paper(book, "a", "b", ([row[0]], [row[1]])), expected)
            self.assertIs(surely_paper(book, "a", "b") is not None, expected)
            self.same(word(book, "a", "b"), "surely" if expected else "perhaps")

    def test_both_rows_of_a_surely_paper_are_looked_at(self):
        row = [("m", "day", 5), ("day", "m", 5)]
        book = Book(Calendar(["m"], row), [deal("a", ("m", 0), ("m", 4)), deal("b", ("day", 0), ("day", 5))])
        self.assertIs(is_surely_paper(book, "a", "b", ([row[0]], [row[1]])), False)
        self.assertIs(is_surely_paper(book, "b", "a", ([row[1]], [row[0]])), False)
        self.same(word(book, "a", "b"), "perhaps")

    def test_own_clauses_may_be_used(self):
        book = self.book()
        self.same(book["c"].own_clause(), ("m", "n", -2))
        self.assertIs(is_apart_paper(book, "a", "b", ("a", "b", [("m", "n", -2)])), False)
        self.assertIs(is_surely_paper(book, "c", "c", ([("m", "n", -2)], [("m", "n", -10)])), True)
        early = Book(book.calendar, [deal("a", ("m", -10), ("m", -3)), book["b"], book["c"]])
        self.assertIs(is_apart_paper(early, "a", "b", ("a", "b", [("m", "n", -2)])), True)


class Wrong(Case):
    CALLS = (word, clash, reach, apart_paper, together_paper, surely_paper, dates_apart,
             lambda book, one, other: is_apart_paper(book, one, other, None),
             lambda book, one, other: is_surely_paper(book, one, other, None))

    def test_unknown_deals(self):
        book = Book(YEAR, [HALLS, NET])
        for call in self.CALLS:
            for value in ODD_VALUES + ["discs", "nets", HALLS, ["net"]]:
                self.raised(UnknownDeal, lambda: call(book, value, "net"), value=value)
                self.raised(UnknownDeal, lambda: call(book, "halls", value), value=value)
            self.raised(UnknownDeal, lambda: call(book, "x", "y"), value="x")
            self.raised(UnknownDeal, lambda: call(book, "x", "x"), value="x")

    def test_same_deal(self):
        self.raised(SameDeal, lambda: clash(year(), "net", "net"), value="net")
        self.raised(SameDeal, lambda: clash(year(), "halls", "halls"), value="halls")
