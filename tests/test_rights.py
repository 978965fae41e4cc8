"""[71], [72] and [73]: slacks, rights and rooms, against all dates and all uses, gone through one by one."""

import itertools

from letdays.books import Book
from letdays.calendars import Calendar
from letdays.deals import Deal
from letdays.errors import InvalidRights, NotSafe, TooMany, UnknownDeal
from letdays.rights import (is_safe_with, is_unsafe_use, room, rooms, slack, slacks, unsafe_use, with_rights)
from letdays.together import is_safe, open_pairs
from tests.support import Anything, Case, ODD_VALUES, ahead_by_hand, bound_by_hand, clashing_by_hand
from tests.support import deal, numbers, open_books, open_by_hand, point_day, safe_books, small_books
from tests.support import touching_by_hand

BIG = 10 ** 29


def slack_by_hand(book, one, other, every):
    """1 less than the least number of days from the end of one to the begin of other."""
    return min(point_day(dates, book[other].begin) - point_day(dates, book[one].end) for dates in every) - 1


def bars_by_hand(book, ahead):
    """The sorted list of the tuples of names of which the first bars the second."""
    return [pair for pair in ahead if tuple(sorted(pair)) in touching_by_hand(book)]


def longer(book, uses):
    """The days of the deals in dates, with their uses."""
    def days(dates, name):
        early, late = uses.get(name, (0, 0))
        one = book[name]
        return set(range(point_day(dates, one.begin) - early, point_day(dates, one.end) + late + 1))
    return days


def clash_days(book, uses, dates):
    """All days on which two deals that touch are both on, in dates and with uses."""
    days = longer(book, uses)
    found = set()
    for one, other in touching_by_hand(book):
        found |= days(dates, one) & days(dates, other)
    return found


def uses_of(rights):
    """All uses of rights."""
    names = list(rights)
    ways = [list(itertools.product(range(rights[name][0] + 1), range(rights[name][1] + 1))) for name in names]
    return [dict(zip(names, use)) for use in itertools.product(*ways)]


def some_rights(source, names, most):
    """Rights of some of the names."""
    return {name: (source.randint(0, most), source.randint(0, most)) for name in names if source.random() < 0.7}


def row():
    """The book of the document's example."""
    early = Deal("early", "h", ["f"], ["de"], ["hall"], ("p", 0), ("p", 29))
    disc = Deal("disc", "h", ["f"], ["de"], ["hall"], ("p", 40), ("p", 50))
    net = Deal("net", "k", ["f"], ["de"], ["hall"], ("q", 0), ("q", 10))
    return Book(Calendar(["p", "q"], [("day", "p", 0), ("p", "q", -60)]), [early, disc, net])


def open_row():
    """A book that is not safe: of its open pairs, (b, c) is the least one."""
    return Book(Calendar(["m"], [("m", "day", 9)]),
                [deal("d", ("day", 0), ("day", 3)), deal("c", ("m", 0), ("m", 3)), deal("b", ("day", 5), ("day", 6)),
                 deal("a", ("m", -5), ("m", -4)), deal("e", ("day", 20), ("day", 21))]).without("a")


def owning():
    """A safe book of deals with own clauses: b and d have the same one, that of c is the calendar's."""
    calendar = Calendar(["m", "n"], [("m", "day", 9), ("n", "day", 5)])
    return Book(calendar, [deal("a", ("m", 2), ("n", 6), "v"), deal("b", ("day", 0), ("m", 4), "w"),
                           deal("c", ("n", 0), ("day", 5), "x"), deal("d", ("day", 1), ("m", 5), "y"),
                           deal("e", ("m", 0), ("m", 3), "z")])


class Slacks(Case):
    def test_against_all_dates(self):
        told = [0, 0]
        for book, every in small_books(301, 80):
            table = {}
            for one, other in itertools.product(book.names(), repeat=2):
                least = slack_by_hand(book, one, other, every)
                told[least >= 0] += 1
                self.same(slack(book, one, other), least if least >= 0 else None)
                if least >= 0 and tuple(sorted((one, other))) in touching_by_hand(book):
                    table[(one, other)] = least
            self.same(slacks(book), dict(sorted(table.items())))
        self.assertGreater(min(told), 50)

    def test_against_least_sums(self):
        long = 0
        for book in open_books(302, 80, size=BIG):
            ahead = ahead_by_hand(book)
            for one, other in itertools.product(book.names(), repeat=2):
                most = bound_by_hand(book.clauses(), book[one].end[0], book[other].begin[0])
                gap = None if most is None else book[other].begin[1] - book[one].end[1] - most - 1
                self.same(slack(book, one, other), gap if (one, other) in ahead else None)
            self.same(list(slacks(book)), bars_by_hand(book, ahead))
            self.same(slacks(book), {pair: slack(book, *pair) for pair in bars_by_hand(book, ahead)})
            long += any(number > 10 ** 28 for number in slacks(book).values())
        self.assertGreater(long, 20)

    def test_only_those_that_touch(self):
        book = Book(Calendar([], []), [deal("b", ("day", 0), ("day", 1), "x"), deal("a", ("day", 5), ("day", 6), "y"),
                                       deal("c", ("day", 2), ("day", 3), "xy", alone=False),
                                       deal("d", ("day", 9), ("day", 9), "x", alone=False)])
        self.same(slacks(book), {("b", "c"): 0, ("b", "d"): 7, ("c", "a"): 1})
        self.same([slack(book, "b", "a"), slack(book, "c", "d"), slack(book, "a", "b"), slack(book, "a", "a")],
                  [3, 5, None, None])
        self.same([slacks(Book(Calendar([], []), [])), slacks(book.without("b", "a"))], [{}, {}])

    def test_so_many_days_can_be_put_away(self):
        told = 0
        for book, _ in safe_books(303, 40):
            for (one, other), days in slacks(book).items():
                for more in (days, days + 1):
                    first, second = book[one], book[other]
                    moved = Deal(one, "h", first.films, first.lands, first.ways, first.begin,
                                 (first.end[0], first.end[1] + more), alone=first.alone)
                    calendar = book.calendar
                    for own in [each.own_clause() for each in book]:
                        calendar = calendar if own is None else calendar.with_clause(own)
                    self.assertIs(is_safe(Book(calendar, [moved, second])), more == days)
                    told += 1
        self.assertGreater(told, 50)

    def test_unknown_deals(self):
        for value in ODD_VALUES + ["zz", row()["net"], ["net"]]:
            self.raised(UnknownDeal, lambda: slack(row(), value, "net"), value=value)
            self.raised(UnknownDeal, lambda: slack(row(), "net", value), value=value)
        self.raised(UnknownDeal, lambda: slack(row(), "yy", "zz"), value="yy")


class Used(Case):
    def test_begins_ends_and_own_clauses(self):
        book = owning()
        told = book.calendar.clauses()
        own = {"a": ("m", "n", 4), "b": ("day", "m", 4), "c": ("n", "day", 5), "d": ("day", "m", 4), "e": None}
        self.same([one.own_clause() for one in book], [own[name] for name in "abcde"])
        for rights, further in (({}, []), ({"a": (2, 3)}, [own["a"]]), ({"b": (0, 0)}, [own["b"]]),
                                ({"d": (1, 2), "a": (0, 1)}, [own["a"], own["d"]]), ({"c": (4, 0)}, []),
                                ({"e": (1, 1)}, []), ({"d": (0, 0), "b": (3, 3)}, [own["b"]]),
                                ({name: (1, 0) for name in "edcba"}, [own["a"], own["b"]])):
            found = with_rights(book, rights)
            self.same(found.calendar.clauses(), told + further)
            self.same([found.calendar.moments(), found.names()], [["m", "n"], list("abcde")])
            for name in "abcde":
                early, late = rights.get(name, (0, 0))
                self.same(found[name].begin, (book[name].begin[0], book[name].begin[1] - early))
                self.same(found[name].end, (book[name].end[0], book[name].end[1] + late))
        self.assertIs(with_rights(book, {}) == book, True)
        self.same(repr(book), repr(owning()))

    def test_all_else_stays(self):
        one = Deal("a", "hale", ["f", "g"], ["x", "y"], ["v", "w"], ("day", 1), ("day", 2), alone=False, price=7)
        book = Book(Calendar([], []), [one])
        found = with_rights(book, {"a": (3, 4)})["a"]
        self.assertIs(found == Deal("a", "hale", ["f", "g"], ["x", "y"], ["v", "w"], ("day", -2), ("day", 6),
                                    alone=False, price=7), True)

    def test_dates_stay_the_same(self):
        source = numbers(304)
        for book, every in small_books(305, 40):
            found = with_rights(book, some_rights(source, book.names(), 5))
            days = [{"m": m, "n": n} for m in range(-1, 6) for n in range(-1, 6)]
            self.same([dates for dates in days if dates in found.full()], every)

    def test_forty_clauses_are_let(self):
        calendar = Calendar(["m"], [("m", "day", at) for at in range(37)])
        book = Book(calendar, [deal("a", ("m", 0), ("day", 50)), deal("b", ("m", 0), ("day", 60), "y")])
        self.same(len(book.clauses()), 39)
        self.same(len(with_rights(book, {"a": (1, 0)}).clauses()), 40)
        self.same(len(with_rights(book, {"a": (0, 0), "b": (0, 0)}).clauses()), 39)
        self.raised(TooMany, lambda: with_rights(book, {"a": (1, 0), "b": (0, 1)}), what="clauses", limit=40)
        full = Book(Calendar(["m"], [("m", "day", at) for at in range(39)]), [deal("a", ("m", 0), ("day", 50))])
        self.same(len(with_rights(full, {"a": (0, 0)}).clauses()), 40)
        self.raised(TooMany, lambda: with_rights(full, {"a": (0, 1)}), what="clauses", limit=40)
        forty = Book(Calendar(["m"], [("m", "day", at) for at in range(40)]), [deal("a", ("m", 0), ("day", 9))])
        self.same(len(with_rights(forty, {"a": (0, 0)}).clauses()), 40)
        self.raised(TooMany, lambda: with_rights(forty, {"a": (31, 0)}), what="clauses", limit=40)

    def test_the_limit_is_none_of_the_others(self):
        book = Book(Calendar(["m"], [("m", "day", at) for at in range(39)]), [deal("a", ("m", 0), ("day", 50))])
        rights = {"a": (7, 8)}
        self.same([is_safe_with(book, rights), unsafe_use(book, rights)], [True, None])
        self.assertIs(is_unsafe_use(book, rights, ({"a": (1, 1)}, {"m": 0}, 0)), False)
        book = Book(Calendar(["m"], [("m", "day", at) for at in range(38)]),
                    [deal("a", ("m", 0), ("day", 50)), deal("b", ("day", 55), ("m", 90))])
        self.same(len(book.clauses()), 40)
        self.same(is_safe_with(book, {"a": (0, 4)}), True)
        found = unsafe_use(book, {"a": (0, 5)})
        self.assertIs(is_unsafe_use(book, {"a": (0, 5)}, found), True)


class SafeWith(Case):
    def test_against_all_uses_and_dates(self):
        source, told = numbers(306), [0, 0]
        for book, every in safe_books(307, 40) + small_books(308, 15, names="abc", size=6):
            for _ in range(3):
                rights = some_rights(source, book.names(), 2)
                uses = uses_of(rights)
                expected = not any(clash_days(book, use, dates) for use in uses for dates in every)
                told[expected] += 1
                self.assertIs(is_safe_with(book, rights), expected)
                self.check_use(book, every, rights, expected)
        self.assertGreater(min(told), 20)

    def check_use(self, book, every, rights, expected):
        found = unsafe_use(book, rights)
        if expected:
            self.assertIsNone(found)
            return
        self.same([type(found), len(found)], [tuple, 3])
        uses, dates, day = found
        self.same([type(uses), list(uses)], [dict, sorted(rights)])
        self.assertIn(uses, uses_of(rights))
        self.assertIn(dates, every)
        self.assertIn(day, clash_days(book, uses, dates))
        self.same([type(day), [type(use) for use in uses.values()]], [int, [tuple] * len(uses)])
        self.assertIs(is_unsafe_use(book, rights, found), True)

    def test_as_the_facts_say(self):
        source, told = numbers(309), [0, 0]
        for book in open_books(310, 200, names="abc", size=30):
            rights = some_rights(source, book.names(), 12)
            table = slacks(book)
            sums = [rights.get(one, (0, 0))[1] + rights.get(other, (0, 0))[0] for one, other in table]
            expected = not open_by_hand(book, ahead_by_hand(book)) and all(map(int.__le__, sums, table.values()))
            told[expected] += 1
            self.assertIs(is_safe_with(book, rights), expected)
            self.assertIs(is_safe(with_rights(book, rights)), expected)
        self.assertGreater(min(told), 30)

    def test_judged_against_all(self):
        source, told = numbers(311), [0, 0]
        for book, every in safe_books(312, 12):
            rights = dict(list(some_rights(source, book.names(), 2).items())[:2])
            more = {name: (use[0] + 1, use[1] + 1) for name, use in rights.items()}
            for uses in uses_of(more):
                for dates in every[::3] + [{"m": -1, "n": 9}]:
                    for day in range(-8, 14):
                        expected = uses in uses_of(rights) and dates in every
                        expected = expected and day in clash_days(book, uses, dates)
                        told[expected] += 1
                        self.assertIs(is_unsafe_use(book, rights, (uses, dates, day)), expected)
        self.assertGreater(min(told), 20)

    def test_a_book_that_is_not_safe(self):
        self.same([is_safe_with(open_row(), {}), is_safe_with(open_row(), {"b": (0, 0)})], [False, False])
        uses, dates, day = unsafe_use(open_row(), {})
        self.same(uses, {})
        self.assertIs(is_unsafe_use(open_row(), {}, ({}, dates, day)), True)

    def test_of_no_deal(self):
        empty = Book(Calendar([], []), [])
        self.same([is_safe_with(empty, {}), unsafe_use(empty, {}), is_unsafe_use(empty, {}, ({}, {}, 0))],
                  [True, None, False])
        self.same(with_rights(empty, {}) == empty, True)
        self.same([is_safe_with(row(), {}), unsafe_use(row(), {})], [True, None])

    def test_the_edge(self):
        self.same(is_safe_with(row(), {"early": (99, 4), "disc": (6, 9)}), True)
        for rights in ({"early": (0, 5), "disc": (6, 0)}, {"early": (0, 4), "disc": (7, 0)}, {"disc": (0, 10)},
                       {"net": (10, 0)}, {"disc": (0, 5), "net": (5, 0)}):
            self.assertIs(is_safe_with(row(), rights), False)
        self.same(is_safe_with(row(), {"disc": (0, 5), "net": (4, BIG)}), True)


class Judged(Case):
    rights = {"early": (0, 5), "disc": (6, 0)}
    uses = {"early": (0, 5), "disc": (6, 0)}
    dates = {"p": 7, "q": 67}

    def judge(self, *parts):
        return is_unsafe_use(row(), self.rights, tuple(parts))

    def test_right_ones(self):
        self.same([self.judge(self.uses, self.dates, day) for day in (40, 41, 42)], [False, True, False])
        self.assertIs(self.judge({"disc": (6, 0), "early": (0, 5)}, {"q": 67, "p": 7}, 41), True)
        self.assertIs(self.judge(self.uses, {"p": 0, "q": 1000}, 34), True)

    def test_spoilt_in_one_part(self):
        for uses in ({"early": (0, 6), "disc": (6, 0)}, {"early": (0, 5), "disc": (7, 0)}, {"early": (0, 5)}, {},
                     {"early": (1, 5), "disc": (6, 0)}, {"early": (0, 5), "disc": (5, 0)}, [("early", (0, 5))],
                     {"early": [0, 5], "disc": (6, 0)}, {"early": (0, 5), "disc": (6,)}, None,
                     {"early": (0, 5), "disc": (6, 0, 0)}, {"early": (0, 5), "disc": (6, 0), "net": (0, 0)},
                     {"early": (0, 5), "disc": (6, False)}, {"early": (0, 5), "disc": (6, -1)},
                     {"early": (0, 5), "disc": (6, None)}, {"early": (0, 5), "disk": (6, 0)},
                     {"early": (0, 5), None: (6, 0)}, {"early": (0, 5), "disc": "60"}, ("early", "disc")):
            self.assertIs(self.judge(uses, self.dates, 41), False, uses)
        for dates in ({"p": 7, "q": 66}, {"p": -1, "q": 67}, {"p": 7}, {"p": 7, "q": None}, {"p": True, "q": 67},
                      [7, 67],
                      {"p": 7, "q": 67, "r": 1}, {"p": 7, "q": "67"}, None, {"p": 8, "q": 68}):
            self.assertIs(self.judge(self.uses, dates, 41), False, dates)
        for day in (None, True, "41", [41], -41):
            self.assertIs(self.judge(self.uses, self.dates, day), False, day)
        self.assertIs(is_unsafe_use(row(), self.rights, [self.uses, self.dates, 41]), False)
        self.same([self.judge(self.uses, self.dates), self.judge(self.uses, self.dates, 41, 41)], [False, False])

    def test_true_is_no_day(self):
        book = Book(Calendar([], []), [deal("a", ("day", 0), ("day", 0)), deal("b", ("day", 1), ("day", 1))])
        rights = {"a": (0, 1)}
        self.same([is_unsafe_use(book, rights, ({"a": (0, 1)}, {}, day)) for day in (1, True, 0)], [True, False, False])
        self.same([is_unsafe_use(book, rights, ({"a": (0, late)}, {}, 1)) for late in (1, True, 0)],
                  [True, False, False])

    def test_two_that_do_not_touch(self):
        book = Book(Calendar([], []), [deal("a", ("day", 0), ("day", 5)), deal("b", ("day", 0), ("day", 5), "y")])
        self.same([is_safe_with(book, {"a": (1, 1)}), is_unsafe_use(book, {}, ({}, {}, 0))], [True, False])

    def test_values_of_any_kind(self):
        for value in ODD_VALUES + [Anything(), row()]:
            self.assertIs(is_unsafe_use(row(), self.rights, value), False)
            self.assertIs(self.judge(value, self.dates, 41), False)
            self.assertIs(self.judge(self.uses, value, 41), False)
            self.assertIs(self.judge(self.uses, self.dates, value), False)
            self.assertIs(self.judge({"early": value, "disc": (6, 0)}, self.dates, 41), False)
            self.assertIs(self.judge({"early": (0, value), "disc": (6, 0)}, self.dates, 41), False)


class Rooms(Case):
    def test_against_all_dates(self):
        told = [0, 0]
        for book, every in safe_books(313, 60):
            table = rooms(book)
            self.same([type(table), list(table)], [dict, book.names()])
            for name in book.names():
                self.same(room(book, name), table[name])
                self.same([type(table[name]), len(table[name])], [tuple, 2])
                for at in (0, 1):
                    most = table[name][at]
                    told[most is None] += 1
                    for days, expected in ([(BIG, True)] if most is None else [(most, True), (most + 1, False)]):
                        rights = {name: (days, 0) if at == 0 else (0, days)}
                        self.assertIs(is_safe_with(book, rights), expected)
                        if most is not None:
                            self.assertIs(any(clash_days(book, rights, dates) for dates in every), not expected)
        self.assertGreater(min(told), 50)

    def test_least_slacks(self):
        long = 0
        for book in open_books(314, 150, size=BIG):
            ahead = ahead_by_hand(book)
            if open_by_hand(book, ahead):
                continue
            table = {pair: slack(book, *pair) for pair in bars_by_hand(book, ahead)}
            for name in book.names():
                early = min([table[pair] for pair in table if pair[1] == name], default=None)
                late = min([table[pair] for pair in table if pair[0] == name], default=None)
                long += early is not None and early > 10 ** 28
                self.same(room(book, name), (early, late))
        self.assertGreater(long, 10)

    def test_example(self):
        self.same(rooms(row()), {"disc": (10, 9), "early": (None, 10), "net": (9, None)})
        self.same(rooms(Book(Calendar([], []), [])), {})
        self.same(rooms(row().without("disc", "net")), {"early": (None, None)})

    def test_not_safe(self):
        book = open_row()
        self.same(open_pairs(book)[0], ("b", "c"))
        self.raised(NotSafe, lambda: room(book, "e"), one="b", other="c")
        self.raised(NotSafe, lambda: rooms(book), one="b", other="c")
        for value in ODD_VALUES + ["zz"]:
            self.raised(UnknownDeal, lambda: room(book, value), value=value)
            self.raised(UnknownDeal, lambda: room(row(), value), value=value)

    def test_least_pair(self):
        told = 0
        for book, every in small_books(315, 60):
            pairs = clashing_by_hand(book, every)
            if pairs:
                told += len(pairs) > 1
                self.raised(NotSafe, lambda: rooms(book), one=pairs[0][0], other=pairs[0][1])
                self.raised(NotSafe, lambda: room(book, "d"), one=pairs[0][0], other=pairs[0][1])
        self.assertGreater(told, 20)


class WrongRights(Case):
    def calls(self, book, rights):
        return [lambda: with_rights(book, rights), lambda: is_safe_with(book, rights), lambda: unsafe_use(book, rights),
                lambda: is_unsafe_use(book, rights, None)]

    def check(self, rights):
        for call in self.calls(row(), rights):
            try:
                call()
                self.fail(f"{rights!r} is none")
            except InvalidRights as found:
                self.assertIs(found.value, rights)

    def test_other_kinds_of_things(self):
        for value in ODD_VALUES + [[("net", (1, 1))], (("net", (1, 1)),), "net", row(), Anything()]:
            if value != {} or not isinstance(value, dict):
                self.check(value)

    def test_names_of_no_deal(self):
        for value in (None, True, 1, "", "zz", "day", ("net",), b"net", "Net", 0, frozenset()):
            self.check({value: (1, 1)})
            self.check({"net": (1, 1), value: (1, 1)})

    def test_wrong_numbers(self):
        for value in ODD_VALUES + [[1, 1], (1,), (1, 1, 1), (True, 1), (1, False), (-1, 0), (0, -1), (None, 1),
                                   (1, "1"),
                                   ((1, 1),), {"early": 1, "late": 1}, "11", Anything(), (Anything(), 1)]:
            self.check({"net": value})
            self.check({"early": (0, 0), "net": value, "zz": None})

    def test_behind_an_error_all_is_as_it_was(self):
        book, rights = row(), {"net": (1, -1)}
        for call in self.calls(book, rights):
            self.raised(InvalidRights, call, value={"net": (1, -1)})
        self.same([repr(book), rights], [repr(row()), {"net": (1, -1)}])


class Told(Case):
    def test_by_name(self):
        book, rights = row(), {"disc": (0, 10)}
        self.same([slack(other="net", one="disc", book=book), slacks(book=book)[("disc", "net")]], [9, 9])
        self.same([room(name="disc", book=book), rooms(book=book)["disc"]], [(10, 9), (10, 9)])
        self.same(is_safe_with(rights=rights, book=book), False)
        self.same(with_rights(rights=rights, book=book)["disc"].end, ("p", 60))
        found = unsafe_use(rights=rights, book=book)
        self.same(is_unsafe_use(value=found, rights=rights, book=book), True)

    def test_what_is_returned_is_new(self):
        book, rights = row(), {"disc": (0, 10)}
        for call in (lambda: slacks(book), lambda: rooms(book)):
            first = call()
            told = dict(first)
            first.clear()
            self.same(call(), told)
        found = unsafe_use(book, rights)
        told = repr(found)
        found[0].clear()
        found[1].clear()
        self.same([repr(unsafe_use(book, rights)), rights], [told, {"disc": (0, 10)}])
        used = with_rights(book, rights)
        rights["disc"] = (0, 0)
        rights["net"] = (1, 1)
        self.same([used["disc"].end, used["net"].begin], [("p", 60), ("q", 0)])

    def test_the_sequence_of_keys_has_no_effect(self):
        rights = {"net": (10, 0), "disc": (0, 0), "early": (1, 1)}
        other = dict(sorted(rights.items()))
        self.same(repr(with_rights(row(), rights)), repr(with_rights(row(), other)))
        self.same(unsafe_use(row(), rights), unsafe_use(row(), other))
        self.same(list(unsafe_use(row(), rights)[0]), ["disc", "early", "net"])
