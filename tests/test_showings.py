"""[84]: showings, plans and lacks, against all dates and all ways to put deals to showings, gone through one by one."""

import itertools

from letdays.books import Book
from letdays.calendars import Calendar
from letdays.deals import Deal
from letdays.errors import InvalidDates, InvalidNumber, InvalidShowings, TooMany
from letdays.showings import (covering, is_lack, is_plan, is_sure_plan, lack, most_shown, plan, sure_lack, sure_plan,
                              surely_covering)
from tests.support import Anything, Case, ODD_VALUES, days_by_hand, deal, numbers, open_books, bound_by_hand, point_day
from tests.support import small_books, wrong_dates

BIG = 10 ** 29


def covers_by_hand(book, dates, showing):
    """The names of the deals that cover the showing in dates."""
    return [one.name for one in book
            if showing[:3] in one.cells() and point_day(dates, showing[3]) in days_by_hand(dates, one)]


def surely_by_hand(book, every, showing):
    """The names of the deals that cover the showing in all of these dates."""
    return [name for name in book.names() if all(name in covers_by_hand(book, dates, showing) for dates in every)]


def plans_by_hand(counts, covers):
    """All lists of names that cover the showings, none more often than its count."""
    return [list(row) for row in itertools.product(*covers)
            if all(row.count(name) <= counts.get(name, 0) for name in row)]


def lacks_by_hand(counts, covers):
    found = []
    for many in range(1, len(covers) + 1):
        for some in itertools.combinations(range(len(covers)), many):
            names = {name for at in some for name in covers[at]}
            if sum(counts.get(name, 0) for name in names) < many:
                found.append(list(some))
    return found


def some_showings(source, book, many):
    """Showings about the begins of deals."""
    found = []
    for _ in range(many):
        one = book[source.choice(book.names())]
        found.append(("f", source.choice(one.lands), "w", (one.begin[0], one.begin[1] + source.randint(-1, 3))))
    return found


def some_counts(source, names, most):
    return {name: source.randint(0, most) for name in source.sample(names, source.randint(0, len(names)))}


def plain():
    """A book of three deals: a and b are on surely together, c is later; c has another film, too."""
    calendar = Calendar(["m"], [("day", "m", 0), ("m", "day", 3)])
    later = Deal("c", "k", ["f", "g"], ["x"], ["v", "w"], ("m", 20), ("m", 29), alone=False)
    return Book(calendar, [deal("a", ("m", 0), ("m", 9)), deal("b", ("day", 2), ("day", 9), "xy"), later])


DATES = {"m": 1}
SHOWINGS = [("f", "x", "w", ("day", 5)), ("f", "x", "w", ("m", 20)), ("f", "x", "w", ("m", 4))]


class Covering(Case):
    def test_against_all_dates(self):
        told = [0, 0, 0]
        for book, every in small_books(371, 40):
            for land, moment, number in itertools.product("xyz", ["m", "n", "day"], range(-3, 8)):
                showing = ("f", land, "w", (moment, number))
                expected = surely_by_hand(book, every, showing)
                self.same(surely_covering(book, showing), expected)
                some = []
                for dates in every[::2]:
                    some = covers_by_hand(book, dates, showing)
                    self.same(covering(book, dates, showing), some)
                told[2 if expected else len(some) > 0] += 1
        self.assertGreater(min(told), 100)

    def test_by_least_sums(self):
        told = [0, 0]
        for book in open_books(372, 60):
            for moment, number in itertools.product(["m", "n", "p", "day"], range(-6, 9, 3)):
                showing = ("f", "x", "w", (moment, number))
                expected = []
                for one in [one for one in book if ("f", "x", "w") in one.cells()]:
                    ends = [(one.begin, showing[3]), (showing[3], one.end)]
                    sums = [bound_by_hand(book.clauses(), first[0], second[0]) for first, second in ends]
                    if all(most is not None and most + first[1] <= second[1]
                           for most, (first, second) in zip(sums, ends)):
                        expected.append(one.name)
                told[bool(expected)] += 1
                self.same(surely_covering(book, showing), expected)
        self.assertGreater(min(told), 100)

    def test_the_cell_counts(self):
        book = plain()
        for cell, names in ((("f", "x", "w"), ["c"]), (("g", "x", "v"), ["c"]), (("f", "x", "v"), ["c"]),
                            (("g", "y", "w"), []), (("f", "y", "w"), []), (("x", "f", "w"), []), (("h", "h", "h"), [])):
            self.same(covering(book, DATES, cell + (("day", 25),)), names)
            self.same(surely_covering(book, cell + (("m", 25),)), names)
        self.same(covering(book, DATES, ("f", "x", "w", ("day", 5))), ["a", "b"])

    def test_the_edges(self):
        book = plain()
        self.same([covering(book, DATES, ("f", "x", "w", ("day", day))) for day in (0, 1, 2, 9, 10, 11, 20, 21, 30,
                                                                                    31)],
                  [[], ["a"], ["a", "b"], ["a", "b"], ["a"], [], [], ["c"], ["c"], []])
        self.same([surely_covering(book, ("f", "x", "w", ("day", day))) for day in (1, 2, 3, 9, 10, 22, 23, 29, 30)],
                  [[], ["b"], ["a", "b"], ["a", "b"], [], [], ["c"], ["c"], []])
        self.same([surely_covering(book, ("f", "x", "w", ("m", number))) for number in (-1, 0, 1, 2, 6, 7, 9, 10)],
                  [[], ["a"], ["a"], ["a", "b"], ["a", "b"], ["a"], ["a"], []])

    def test_great_numbers(self):
        book = Book(Calendar(["m"], [("day", "m", -BIG)]), [deal("a", ("m", 0), ("m", BIG)),
                                                            deal("b", ("day", 0), ("m", 0))])
        self.same([surely_covering(book, ("f", "x", "w", ("day", number))) for number in (-1, 0, BIG, BIG + 1)],
                  [[], ["b"], ["b"], []])
        self.same(surely_covering(book, ("f", "x", "w", ("m", BIG))), ["a"])
        self.same(covering(book, {"m": BIG}, ("f", "x", "w", ("day", 2 * BIG))), ["a"])

    def test_errors(self):
        book, right = plain(), SHOWINGS[0]
        for value in wrong_showings():
            self.raised(InvalidShowings, lambda: covering(book, DATES, value), position=None)
            self.raised(InvalidShowings, lambda: surely_covering(book, value), position=None)
        for value in wrong_dates(book) + [{"m": 4}, {"m": -1}]:
            self.raised(InvalidDates, lambda: covering(book, value, right), value=value)
            self.raised(InvalidDates, lambda: covering(book, value, None), value=value)

    def test_by_name(self):
        self.same([covering(showing=SHOWINGS[1], dates=DATES, book=plain()),
                   surely_covering(showing=SHOWINGS[1], book=plain())], [["c"], ["c"]])
        covering(plain(), DATES, SHOWINGS[1]).clear()
        self.same(covering(plain(), DATES, SHOWINGS[1]), ["c"])


def wrong_showings():
    """Values that are no showing of the plain book."""
    point = ("day", 5)
    found = ODD_VALUES + [["f", "x", "w", point], ("f", "x", "w"), ("f", "x", "w", point, 1),
                          ("f", "x", "w", ["day", 5]),
                          ("f", "x", "w", "day", 5), (("f", "x", "w"), point), ("f", "x", "w", ("n", 5)), "fxw5",
                          ("f", "x", "w", ("day", True)), ("f", "x", "w", ("day", None)), ("f", "x", "w", ("day",)),
                          ("F", "x", "w", point), ("f", "day", "w", point), ("f", "x", ["w"], point), Anything(),
                          ("f", "x", "w", 5), (Anything(), "x", "w", point), ("f", "x", "w", (Anything(), 5))]
    for value in ODD_VALUES:
        found += [("f", "x", "w", value), ("f", "x", "w", (value, 5))]
        if value != "a":
            found += [(value, "x", "w", point), ("f", value, "w", point), ("f", "x", value, point)]
        if type(value) is not int:
            found.append(("f", "x", "w", ("day", value)))
    return [value for value in found if value != ("f", "x", "w", ("day", 5)) and value != ("f", "x", "w", ("m", 5))
            or isinstance(value, Anything)]


class Plans(Case):
    def test_a_plan_or_a_lack(self):
        source, told = numbers(373), [0, 0]
        for book, every in small_books(374, 60):
            for dates in source.sample(every, min(3, len(every))):
                showings = some_showings(source, book, source.randint(0, 5))
                counts = some_counts(source, book.names(), 3)
                covers = [covers_by_hand(book, dates, showing) for showing in showings]
                found, short = plan(book, dates, counts, showings), lack(book, dates, counts, showings)
                told[found is None] += 1
                self.check(counts, covers, found, short)
                self.assertIs(is_plan(book, dates, counts, showings, found), found is not None)
                self.assertIs(is_lack(book, dates, counts, showings, short), short is not None)
                most = max(many for many in range(len(covers) + 1)
                           if any(plans_by_hand(counts, some) for some in itertools.combinations(covers, many)))
                self.same(most_shown(book, dates, counts, showings), most)
        self.assertGreater(min(told), 20)

    def check(self, counts, covers, found, short):
        plans, lacks = plans_by_hand(counts, covers), lacks_by_hand(counts, covers)
        self.same([found is None, short is None], [not plans, not lacks])
        self.same(bool(plans), not lacks)
        if plans:
            self.assertIs(type(found), list)
            self.assertIn(found, plans)
        else:
            self.assertIs(type(short), list)
            self.assertIn(short, lacks)

    def test_sure_plans(self):
        source, told = numbers(375), [0, 0]
        for book, every in small_books(376, 150):
            showings = some_showings(source, book, source.randint(0, 4))
            counts = some_counts(source, book.names(), 4)
            covers = [surely_by_hand(book, every, showing) for showing in showings]
            found, short = sure_plan(book, counts, showings), sure_lack(book, counts, showings)
            told[found is None] += len(showings) > 0
            self.check(counts, covers, found, short)
            self.assertIs(is_sure_plan(book, counts, showings, found), found is not None)
        self.assertGreater(min(told), 10)

    def test_judged_against_all(self):
        source, told = numbers(377), [[0, 0], [0, 0], [0, 0]]
        for book, every in small_books(378, 90, names="abc"):
            dates, showings = source.choice(every), some_showings(source, book, source.randint(2, 3))
            counts = {name: source.randint(0, 2) for name in book.names()}
            covers = [covers_by_hand(book, dates, showing) for showing in showings]
            sure = [surely_by_hand(book, every, showing) for showing in showings]
            plans, sure_plans = plans_by_hand(counts, covers), plans_by_hand(counts, sure)
            lacks = lacks_by_hand(counts, covers)
            for many in range(4):
                for row in itertools.product("abcz", repeat=many):
                    told[0][list(row) in plans] += 1
                    told[1][list(row) in sure_plans] += 1
                    for value in (row, list(row)):
                        self.assertIs(is_plan(book, dates, counts, showings, value), list(row) in plans)
                        self.assertIs(is_sure_plan(book, counts, showings, value), list(row) in sure_plans)
                for row in itertools.product(range(-1, 4), repeat=many):
                    told[2][list(row) in lacks] += 1
                    for value in (row, list(row)):
                        self.assertIs(is_lack(book, dates, counts, showings, value), list(row) in lacks)
        self.assertGreater(min(told[0] + told[1] + told[2]), 10)

    def test_no_showings(self):
        for showings in ([], ()):
            self.same([plan(plain(), DATES, {}, showings), lack(plain(), DATES, {}, showings)], [[], None])
            self.same([most_shown(plain(), DATES, {"a": 3}, showings), sure_plan(plain(), {}, showings)], [0, []])
            self.same([sure_lack(plain(), {}, showings), is_plan(plain(), DATES, {}, showings, [])], [None, True])
            self.same([is_lack(plain(), DATES, {}, showings, []), is_sure_plan(plain(), {}, showings, ())],
                      [False, True])

    def test_showings_that_no_deal_covers(self):
        none = ("f", "x", "w", ("day", 15))
        counts = {name: 9 for name in "abc"}
        self.same(plan(plain(), DATES, counts, SHOWINGS + [none]), None)
        self.assertIs(is_lack(plain(), DATES, counts, SHOWINGS + [none], [3]), True)
        self.same(lack(plain(), DATES, counts, SHOWINGS + [none]), [3])
        self.same(most_shown(plain(), DATES, counts, [none] + SHOWINGS), 3)
        self.same([sure_plan(plain(), counts, [none]), sure_lack(plain(), counts, [none])], [None, [0]])

    def test_counts_of_no_showing(self):
        for counts in ({}, {"a": 0, "b": 0, "c": 0}, {"c": 0}):
            self.same([plan(plain(), DATES, counts, SHOWINGS), most_shown(plain(), DATES, counts, SHOWINGS)], [None, 0])
            self.assertIs(is_lack(plain(), DATES, counts, SHOWINGS, [0]), True)
            self.assertIs(is_plan(plain(), DATES, counts, SHOWINGS, ["a", "c", "b"]), False)
        counts = {"c": 1, "b": BIG}
        self.same([plan(plain(), DATES, counts, SHOWINGS), lack(plain(), DATES, counts, SHOWINGS)],
                  [["b", "c", "b"], None])
        self.assertIs(is_plan(plain(), DATES, counts, SHOWINGS, ["a", "c", "b"]), False)

    def test_one_showing_twice(self):
        showings = [SHOWINGS[1]] * 3
        self.same([plan(plain(), DATES, {"c": 3}, showings), plan(plain(), DATES, {"c": 2}, showings)],
                  [["c"] * 3, None])
        self.same([lack(plain(), DATES, {"c": 2}, showings), most_shown(plain(), DATES, {"c": 2}, showings)],
                  [[0, 1, 2], 2])
        self.assertIs(is_lack(plain(), DATES, {"c": 1}, showings, [0, 2]), True)
        self.assertIs(is_lack(plain(), DATES, {"c": 1}, showings, [0, 0]), False)

    def test_dates_and_all_dates(self):
        showings = [("f", "x", "w", ("day", 10))]
        self.same([plan(plain(), DATES, {"a": 1}, showings), plan(plain(), {"m": 0}, {"a": 1}, showings)],
                  [["a"], None])
        self.same([sure_plan(plain(), {"a": 1}, showings), sure_lack(plain(), {"a": 1}, showings)], [None, [0]])
        self.assertIs(is_sure_plan(plain(), {"a": 1}, showings, ["a"]), False)

    def test_forty_showings(self):
        names = "abcdefghij"
        book = Book(Calendar([], []), [deal(name, ("day", at), ("day", at + 30)) for at, name in enumerate(names)])
        showings = [("f", "x", "w", ("day", at)) for at in range(40)]
        counts = {name: 4 for name in names}
        found = plan(book, {}, counts, showings)
        self.assertIs(is_plan(book, {}, counts, showings, found), True)
        self.assertIs(is_sure_plan(book, counts, showings, sure_plan(book, counts, showings)), True)
        self.same([most_shown(book, {}, counts, showings), lack(book, {}, counts, showings)], [40, None])
        less = {name: 4 - (name == "e") for name in names}
        self.same([plan(book, {}, less, showings), most_shown(book, {}, less, showings)], [None, 39])
        self.same([lack(book, {}, less, showings), sure_lack(book, less, showings)], [list(range(40))] * 2)
        more = showings + [("f", "x", "w", ("day", 5))]
        for call in calls(book, {}, counts, more):
            self.raised(TooMany, call, what="showings", limit=40)


def calls(book, dates, counts, showings):
    """The calls of all functions with these counts and showings."""
    return [lambda: is_plan(book, dates, counts, showings, None), lambda: is_lack(book, dates, counts, showings, None),
            lambda: plan(book, dates, counts, showings), lambda: lack(book, dates, counts, showings),
            lambda: most_shown(book, dates, counts, showings), lambda: is_sure_plan(book, counts, showings, None),
            lambda: sure_plan(book, counts, showings), lambda: sure_lack(book, counts, showings)]


class Judged(Case):
    counts = {"a": 1, "b": 1, "c": 1}

    def test_plans_of_any_kind(self):
        judges = [lambda value: is_plan(plain(), DATES, self.counts, SHOWINGS, value),
                  lambda value: is_sure_plan(plain(), self.counts, SHOWINGS, value)]
        for judge in judges:
            for value in (["a", "c", "b"], ("b", "c", "a")):
                self.assertIs(judge(value), True)
            for value in ODD_VALUES + [["a", "c", "a"], ["a", "c"], ["a", "c", "b", "b"], ["a", "b", "c"], "acb",
                                       ["a", "z", "b"], {"a": 1, "c": 1, "b": 1}, {"a", "b", "c"},
                                       [["a"], ["c"], ["b"]],
                                       Anything(), plain()]:
                self.assertIs(judge(value), False)
            for value in ODD_VALUES + ["z", Anything()]:
                self.assertIs(judge([value, "c", "b"]), value == "a" and isinstance(value, str))
                self.assertIs(judge(["a", value, "b"]), False)

    def test_lacks_of_any_kind(self):
        showings = [SHOWINGS[1], SHOWINGS[1], SHOWINGS[0]]
        def judge(value):
            return is_lack(plain(), DATES, self.counts, showings, value)
        self.same([judge([0, 1]), judge((0, 1))], [True, True])
        for value in ODD_VALUES + [[1, 0], [0, 0], [0], [0, 1, 2], [0, 1, 3], [False, True], [0, True], [False, 1],
                                   "01",
                                   {0: 1, 1: 1}, {0, 1}, range(2), [[0], [1]], [0, 1, 1], [0, "1"], [-1, 0, 1],
                                   [-3, -2],
                                   [0, None], [0, BIG], Anything(), plain()]:
            self.assertIs(judge(value), False, value)
        for value in ODD_VALUES + [Anything()]:
            self.assertIs(judge([0, value]), type(value) is int and value == 1)
            self.assertIs(judge([value, 1]), type(value) is int and value == 0)

    def test_a_lack_of_the_bools(self):
        none = [("f", "x", "w", ("day", 15))] * 2
        self.same([is_lack(plain(), DATES, {}, none, value) for value in ([0], [1], [False], [True], [0, True])],
                  [True, True, False, False, False])


class Wrong(Case):
    def test_dates(self):
        for value in wrong_dates(plain()) + [{"m": 4}]:
            for call in calls(plain(), value, None, None)[:5]:
                self.raised(InvalidDates, call, value=value)

    def test_counts(self):
        wrong = [value for value in ODD_VALUES if not isinstance(value, dict)] + [
            {"a": 1, "z": 1}, {"a": True}, {"a": -1}, {"a": None}, {"a": "1"}, {"a": [1]}, {1: 1}, {None: 0},
            {("a",): 1},
            {"a": 1, "b": False}, [("a", 1)], {"a": Anything()}, Anything(), {"day": 0}]
        for value in wrong:
            for call in calls(plain(), DATES, value, None):
                try:
                    call()
                    self.fail(f"{value!r} are none")
                except InvalidNumber as found:
                    self.assertIs(found.value, value)

    def test_showings(self):
        for value in ODD_VALUES + ["f", {SHOWINGS[0]: 1}, Anything()]:
            if not isinstance(value, (list, tuple)):
                for call in calls(plain(), DATES, {}, value):
                    self.raised(InvalidShowings, call, position=None)
        for value in wrong_showings():
            self.raised(InvalidShowings, calls(plain(), DATES, {}, [value, None])[2], position=0)
            self.raised(InvalidShowings, calls(plain(), DATES, {}, (SHOWINGS[0], value))[6], position=1)
        for call in calls(plain(), DATES, {}, SHOWINGS + [None, None]):
            self.raised(InvalidShowings, call, position=3)
        for call in calls(plain(), DATES, {}, SHOWINGS * 14 + [None]):
            self.raised(InvalidShowings, call, position=42)
        for call in calls(plain(), DATES, {}, SHOWINGS * 14):
            self.raised(TooMany, call, what="showings", limit=40)

    def test_in_sequence(self):
        for at, call in enumerate(calls(plain(), None, {"z": 1}, [None])):
            if at < 5:
                self.raised(InvalidDates, call, value=None)
            else:
                self.raised(InvalidNumber, call, value={"z": 1})
        for call in calls(plain(), DATES, {"z": 1}, SHOWINGS * 14):
            self.raised(InvalidNumber, call, value={"z": 1})

    def test_by_name_and_new(self):
        book, counts, showings = plain(), {"c": 1, "b": 2}, list(SHOWINGS)
        dates = dict(DATES)
        self.same([plan(showings=showings, counts=counts, dates=dates, book=book),
                   lack(showings=showings, counts=counts,
                   dates=dates, book=book)], [["b", "c", "b"], None])
        self.same(is_plan(value=["b", "c", "b"], showings=showings, counts=counts, dates=dates, book=book), True)
        self.same(is_lack(value=[0], showings=showings, counts=counts, dates=dates, book=book), False)
        self.same(most_shown(showings=showings, counts=counts, dates=dates, book=book), 3)
        self.same(sure_plan(showings=showings, counts=counts, book=book), ["b", "c", "b"])
        self.same(is_sure_plan(value=["b", "c", "b"], showings=showings, counts=counts, book=book), True)
        self.same(sure_lack(showings=showings, counts=counts, book=book), None)
        plan(book, dates, counts, showings).clear()
        self.same(plan(book, dates, counts, showings), ["b", "c", "b"])
        self.same([counts, showings, dates, repr(book)], [{"c": 1, "b": 2}, SHOWINGS, DATES, repr(plain())])
