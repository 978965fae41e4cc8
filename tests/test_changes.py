"""[75] and [76]: learnt moments, deals put ahead, split lands, against all dates gone through one by one."""

import itertools

from letdays.books import Book
from letdays.calendars import Calendar
from letdays.changes import can_be_ahead, days_of, learnt, put_ahead, split_land
from letdays.deals import Deal
from letdays.errors import (InvalidNames, InvalidNumber, NoDates, SameDeal, TooMany, UnknownDeal, UnknownLand,
                            UnknownMoment)
from letdays.pairs import words
from tests.support import Anything, Case, ODD_VALUES, bound_by_hand, deal, open_books, point_day, rings_by_hand
from tests.support import small_books, touching_by_hand

BIG = 10 ** 29
DAYS = [{"m": m, "n": n} for m in range(-2, 7) for n in range(-2, 7)]


def dates_of(book):
    """All dates of a book with the moments m and n, with days from -2 to 6."""
    return [dates for dates in DAYS if dates in book.full()]


def plain():
    """A book with two moments, one deal of them and one of fixed days."""
    return Book(Calendar(["p", "q"], [("day", "p", 0), ("p", "q", -60)]),
                [deal("a", ("p", 0), ("p", 9)), deal("b", ("q", 0), ("q", 5)), deal("c", ("day", 0), ("day", 5), "y")])


class Learnt(Case):
    def test_against_all_dates(self):
        told = [0, 0]
        for book, every in small_books(331, 60):
            for moment in ("m", "n"):
                days = sorted({dates[moment] for dates in every})
                self.same(days_of(book, moment), (days[0], days[-1]))
                self.same(days, list(range(days[0], days[-1] + 1)))
                for day in range(days[0] - 1, days[-1] + 2):
                    told[day in days] += 1
                    if day not in days:
                        self.raised(NoDates, lambda: learnt(book, moment, day))
                        continue
                    found = learnt(book, moment, day)
                    self.same(dates_of(found), [dates for dates in every if dates[moment] == day])
                    self.check_parts(book, found, moment, day)
        self.assertGreater(min(told), 100)

    def check_parts(self, book, found, moment, day):
        self.same(found.calendar.clauses(), book.calendar.known(moment, day).clauses())
        self.same([found.names(), list(found) == list(book)], [book.names(), True])
        sharper = {"never": ["never"], "surely": ["surely"], "perhaps": ["never", "perhaps", "surely"]}
        behind = words(found)
        for pair, told in words(book).items():
            self.assertIn(behind[pair], sharper[told])

    def test_days_by_least_sums(self):
        told = [0, 0, 0]
        for book in open_books(332, 160, size=BIG):
            for moment in ("m", "n", "p"):
                most, least = (bound_by_hand(book.clauses(), *pair) for pair in ((moment, "day"), ("day", moment)))
                self.same(days_of(book, moment), (None if least is None else -least, most))
                told[(most is None) + (least is None)] += 1
                for day, number in ((most, 1), (least if least is None else -least, -1)):
                    if day is not None:
                        self.same(days_of(learnt(book, moment, day), moment), (day, day))
                        self.raised(NoDates, lambda: learnt(book, moment, day + number))
        self.assertGreater(min(told), 10)

    def test_in_sequence(self):
        told = plain().calendar.clauses()
        self.same(learnt(plain(), "p", 7).calendar.clauses(), told + [("p", "day", 7), ("day", "p", -7)])
        self.same(learnt(plain(), "p", 0).calendar.clauses(), told + [("p", "day", 0)])
        both = learnt(plain(), "q", 60)
        self.same(both.calendar.clauses(), told + [("q", "day", 60), ("day", "q", -60)])
        self.same(learnt(both, "q", 60).calendar.clauses(), both.calendar.clauses())
        self.assertIs(learnt(both, "q", 60) == both, True)
        self.same([days_of(both, "p"), days_of(both, "q")], [(0, 0), (60, 60)])
        self.same([days_of(plain(), "p"), days_of(plain(), "q")], [(0, None), (60, None)])

    def test_own_clauses_count(self):
        book = Book(Calendar(["m"], []), [deal("a", ("m", 3), ("day", 9)), deal("b", ("day", 2), ("m", 0))])
        self.same(days_of(book, "m"), (2, 6))
        self.raised(NoDates, lambda: learnt(book, "m", 7))
        self.raised(NoDates, lambda: learnt(book, "m", 1))
        self.same(learnt(book, "m", 6).calendar.clauses(), [("m", "day", 6), ("day", "m", -6)])
        self.same(days_of(Book(Calendar(["m"], []), []), "m"), (None, None))

    def test_the_limit(self):
        book = Book(Calendar(["m"], [("m", "day", at) for at in range(5, 42)]), [deal("a", ("m", 0), ("day", 60))])
        self.same(len(book.clauses()), 38)
        self.same(len(learnt(book, "m", -3).clauses()), 40)
        more = book.with_calendar(book.calendar.with_clause(("m", "day", 50)))
        self.same(len(learnt(more, "m", 5).clauses()), 40)
        self.raised(TooMany, lambda: learnt(more, "m", 4), what="clauses", limit=40)
        self.raised(NoDates, lambda: learnt(more, "m", 6))
        full = Book(Calendar(["m"], [("m", "day", at) for at in range(40)]), [])
        self.raised(NoDates, lambda: learnt(full, "m", 1))
        self.raised(TooMany, lambda: learnt(full, "m", -1), what="clauses", limit=40)
        self.raised(TooMany, lambda: learnt(full, "m", 0), what="clauses", limit=40)
        done = Book(Calendar(["m"], [("m", "day", at) for at in range(39)] + [("day", "m", 0)]), [])
        self.same(learnt(done, "m", 0).calendar.clauses(), done.calendar.clauses())

    def test_wrong_moments(self):
        for value in ODD_VALUES + ["day", "a", "pp", ("p", 0), Anything()]:
            self.raised(UnknownMoment, lambda: days_of(plain(), value))
            self.raised(UnknownMoment, lambda: learnt(plain(), value, None))
            try:
                learnt(plain(), value, 0)
            except UnknownMoment as found:
                self.assertIs(found.value, value)

    def test_wrong_days(self):
        for value in ODD_VALUES + ["5", [5]]:
            if type(value) is not int:
                self.raised(InvalidNumber, lambda: learnt(plain(), "p", value), value=value)
        book = Book(Calendar(["m"], [("m", "day", 1)]), [])
        self.raised(InvalidNumber, lambda: learnt(book, "m", True), value=True)


class PutAhead(Case):
    def test_against_all_dates(self):
        told = [0, 0]
        for book, every in small_books(333, 60):
            for one, other in itertools.permutations(book.names(), 2):
                left = [dates for dates in every
                        if point_day(dates, book[one].end) < point_day(dates, book[other].begin)]
                told[bool(left)] += 1
                self.assertIs(can_be_ahead(book, one, other), bool(left))
                if not left:
                    self.raised(NoDates, lambda: put_ahead(book, one, other))
                    continue
                found = put_ahead(book, one, other)
                self.same(dates_of(found), left)
                end, begin = book[one].end, book[other].begin
                clause = (end[0], begin[0], begin[1] - end[1] - 1)
                further = [clause] if end[0] != begin[0] and clause not in book.calendar.clauses() else []
                self.same(found.calendar.clauses(), book.calendar.clauses() + further)
                self.assertIs(list(found) == list(book), True)
        self.assertGreater(min(told), 100)

    def test_by_rings(self):
        told = [0, 0]
        for book in open_books(334, 60, size=BIG):
            for one, other in itertools.permutations(book.names(), 2):
                end, begin = book[one].end, book[other].begin
                number = begin[1] - end[1] - 1
                expected = number >= 0
                if end[0] != begin[0]:
                    expected = not rings_by_hand(book.clauses() + [(end[0], begin[0], number)])
                told[expected] += 1
                self.assertIs(can_be_ahead(book, one, other), expected)
        self.assertGreater(min(told), 50)

    def test_deals_of_one_moment(self):
        book = Book(Calendar(["m"], []), [deal("a", ("m", 0), ("m", 9)), deal("b", ("m", 10), ("m", 12)),
                                          deal("c", ("m", 9), ("m", 9)), deal("d", ("day", 0), ("day", 3)),
                                          deal("e", ("day", 4), ("day", 5))])
        for one, other in (("a", "b"), ("c", "b"), ("d", "e")):
            self.assertIs(put_ahead(book, one, other) == book, True)
            self.same([put_ahead(book, one, other).calendar.clauses(), can_be_ahead(book, one, other)], [[], True])
        for one, other in (("b", "a"), ("a", "c"), ("c", "a"), ("b", "c"), ("e", "d")):
            self.raised(NoDates, lambda: put_ahead(book, one, other))
            self.assertIs(can_be_ahead(book, one, other), False)
        self.same(put_ahead(book, "a", "d").calendar.clauses(), [("m", "day", -10)])
        self.same(put_ahead(book, "d", "a").calendar.clauses(), [("day", "m", -4)])

    def test_end_and_begin_count_only(self):
        # The one begins and the other ends by another moment.
        book = Book(Calendar(["m", "n"], []), [deal("a", ("n", 0), ("m", 3)), deal("b", ("m", 4), ("n", 9))])
        self.same(put_ahead(book, "a", "b").calendar.clauses(), [])
        self.raised(NoDates, lambda: put_ahead(book, "b", "a"))
        self.raised(NoDates, lambda: put_ahead(book.without("b").with_deal(deal("c", ("m", 3), ("n", 9))), "a", "c"))

    def test_a_clause_that_stands_already(self):
        book = put_ahead(plain(), "a", "b")
        self.same(book.calendar.clauses(), plain().calendar.clauses() + [("p", "q", -10)])
        self.assertIs(put_ahead(book, "a", "b") == book, True)

    def test_the_limit(self):
        calendar = Calendar(["m"], [("m", "day", at) for at in range(39)])
        book = Book(calendar, [deal("a", ("m", 0), ("m", 3)), deal("b", ("day", 1), ("day", 5))])
        found = put_ahead(book, "a", "b")
        self.same(len(found.clauses()), 40)
        self.raised(NoDates, lambda: put_ahead(found, "b", "a"))
        full = Book(Calendar(["m"], [("m", "day", at) for at in range(40)]),
                    [deal("a", ("m", 0), ("m", 3)), deal("b", ("day", 1), ("day", 5)),
                     deal("c", ("m", -60), ("m", -50)),
                     deal("d", ("day", -9), ("day", -8))])
        self.raised(TooMany, lambda: put_ahead(full, "a", "b"), what="clauses", limit=40)
        self.same(can_be_ahead(full, "a", "b"), True)
        self.same(can_be_ahead(full, "d", "a"), True)
        self.raised(TooMany, lambda: put_ahead(full, "d", "a"), what="clauses", limit=40)
        self.same([can_be_ahead(full, "b", "c"), can_be_ahead(full, "c", "a"), can_be_ahead(full, "a", "c")],
                  [False, True, False])
        self.raised(NoDates, lambda: put_ahead(full, "b", "c"))
        self.raised(NoDates, lambda: put_ahead(full, "a", "c"))
        self.same(put_ahead(full, "c", "a") == full, True)

    def test_errors_in_sequence(self):
        for call in (put_ahead, can_be_ahead):
            for value in ODD_VALUES + ["zz", Anything()]:
                if value != "a" or not isinstance(value, str):
                    self.raised(UnknownDeal, lambda: call(plain(), value, "a"))
                    self.raised(UnknownDeal, lambda: call(plain(), "a", value))
                    self.raised(UnknownDeal, lambda: call(plain(), value, value))
            self.raised(UnknownDeal, lambda: call(plain(), "yy", "zz"), value="yy")
            self.raised(UnknownDeal, lambda: call(plain(), "a", "zz"), value="zz")
            for name in "abc":
                self.raised(SameDeal, lambda: call(plain(), name, name), value=name)

    def test_by_name(self):
        self.same(put_ahead(other="b", one="a", book=plain()).calendar.clauses()[2:], [("p", "q", -10)])
        self.same([can_be_ahead(other="b", one="a", book=plain()), can_be_ahead(other="a", one="b", book=plain())],
                  [True, False])
        self.same([days_of(moment="q", book=plain()), days_of(learnt(day=3, moment="p", book=plain()), "p")],
                  [(60, None), (3, 3)])
        self.same(split_land(parts=["v", "u"], land="y", book=plain())["c"].lands, ("u", "v"))


def lands():
    """A book with deals of one to four lands."""
    def of(name, *owned):
        return Deal(name, "h", ["f", "g"], list(owned), ["w"], ("m", 0), ("day", 9), alone=name != "c", price=4)
    return Book(Calendar(["m"], [("m", "day", 5)]), [of("a", "x"), of("b", "y", "x"), of("c", "z"),
                                                     of("d", "x", "y", "z"), of("e", "x", "p", "r", "q").named("e")])


class SplitLand(Case):
    def test_in_the_place_of_the_land(self):
        book = lands().without("e")
        found = split_land(book, "x", ["u", "k"])
        self.same([one.lands for one in found], [("k", "u"), ("k", "u", "y"), ("z",), ("k", "u", "y", "z")])
        self.same([one.lands for one in book], [("x",), ("x", "y"), ("z",), ("x", "y", "z")])
        for parts in (("u", "k"), ["k", "u"], ("k", "u")):
            self.assertIs(split_land(book, "x", parts) == found, True)

    def test_all_else_stays(self):
        book = lands().without("e")
        found = split_land(book, "x", ["u", "k"])
        for name in book.names():
            one, other = book[name], found[name]
            for part in ("name", "house", "films", "ways", "begin", "end", "alone", "price"):
                self.same(getattr(other, part), getattr(one, part))
        self.assertIs(found.calendar == book.calendar, True)
        self.same([found.calendar.clauses(), found.clauses()], [book.calendar.clauses(), book.clauses()])
        self.same(words(found), words(book))
        self.same(touching_by_hand(found), touching_by_hand(book))

    def test_no_word_changes(self):
        for book in open_books(335, 40):
            for land in {land for one in book for land in one.lands}:
                found = split_land(book, land, ["aa", "zz"])
                self.same([words(found), found.touching()], [words(book), book.touching()])

    def test_again_and_again(self):
        book = lands().without("d", "e")
        book = split_land(book, "x", ["xa", "xb"])
        book = split_land(book, "xa", ["x", "xc"])
        self.same([one.lands for one in book], [("x", "xb", "xc"), ("x", "xb", "xc", "y"), ("z",)])
        self.raised(TooMany, lambda: split_land(book, "y", ["p", "q"]), what="lands", limit=4)
        book = split_land(book, "z", ["p", "q"])
        book = split_land(book, "p", ["z", "r"])
        self.same(book["c"].lands, ("q", "r", "z"))
        self.raised(InvalidNames, lambda: split_land(book, "z", ["s", "z"]), position=1)

    def test_too_many(self):
        self.raised(TooMany, lambda: split_land(lands(), "x", ["u", "k"]), what="lands", limit=4)
        self.raised(TooMany, lambda: split_land(lands(), "q", ["u", "k"]), what="lands", limit=4)
        self.same(split_land(lands(), "z", ["u", "k"])["e"].lands, ("p", "q", "r", "x"))
        self.same(split_land(lands(), "y", ["u", "k"])["d"].lands, ("k", "u", "x", "z"))

    def test_unknown_lands(self):
        for value in ODD_VALUES + ["day", "xx", "f", "w", "a", ("x",), ["x"], Anything()]:
            self.raised(UnknownLand, lambda: split_land(lands(), value, None))
            try:
                split_land(lands(), value, ["u", "k"])
            except UnknownLand as found:
                self.assertIs(found.value, value)
        self.raised(UnknownLand, lambda: split_land(Book(Calendar([], []), []), "x", ["u", "k"]), value="x")

    def test_wrong_parts(self):
        def split(parts):
            return lambda: split_land(lands(), "x", parts)
        for value in ODD_VALUES + ["uk", {"u": 1, "k": 1}, ["u"], ["u", "k", "v"], ("u",), [], Anything()]:
            if not isinstance(value, (list, tuple)) or len(value) != 2:
                self.raised(InvalidNames, split(value), position=None)
        for value in [value for value in ODD_VALUES if value != "a"] + ["x", "y", "z", "q", "day", "Uk", Anything()]:
            self.raised(InvalidNames, split([value, "k"]), position=0)
            self.raised(InvalidNames, split((value, value)), position=0)
            self.raised(InvalidNames, split(["u", value]), position=1)
        self.raised(InvalidNames, split(["u", "u"]), position=1)
        self.raised(InvalidNames, lambda: split_land(lands(), "y", ["u", "u"]), position=1)
        self.raised(InvalidNames, split(["x", "u", "u"]), position=None)

    def test_behind_an_error_all_is_as_it_was(self):
        book, parts = lands(), ["u", "u"]
        self.raised(InvalidNames, lambda: split_land(book, "x", parts), position=1)
        self.raised(TooMany, lambda: split_land(book, "x", ["u", "k"]), what="lands", limit=4)
        self.same([repr(book), parts], [repr(lands()), ["u", "u"]])

    def test_what_is_passed_has_no_effect_later(self):
        parts = ["u", "k"]
        found = split_land(lands(), "z", parts)
        parts[0] = "v"
        self.same([found["c"].lands, parts], [("k", "u"), ["v", "k"]])
