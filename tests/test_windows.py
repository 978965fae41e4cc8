"""[61] to [64]: what deals bar, hold and leave free, against all dates of small books, gone through one by one."""

from letdays.books import Book
from letdays.calendars import Calendar
from letdays.errors import InvalidCell, InvalidMoment, InvalidNumber, InvalidPoint, UnknownDeal
from letdays.windows import (bar_at, barred, clearing_at, earliest, free_stretches, held, is_bar, is_clearing, is_free,
                             room_at, taken_stretches)
from tests.support import Case, ODD_VALUES, ZERO, bound_by_hand, day, deal, is_row_by_hand, keeps, odd_but, open_books
from tests.support import point_day, rows_by_hand, small_books, total, wrong_cells

CELL = ("f", "x", "w")
NONE = ("f", "z", "w")
BIG = 10 ** 29
# All numbers at which a deal of small_books can be on, and more on both sides.
WIDE = range(-16, 22)


def are_on(book, one, dates, moment, number):
    """Whether the deal is on, in dates, at the day so many days behind the moment."""
    at = day(dates, moment) + number
    return point_day(dates, one.begin) <= at <= point_day(dates, one.end)


def stretch_of(numbers):
    """The stretch of some numbers that have no gap; None if there are none."""
    if not numbers:
        return None
    assert numbers == list(range(numbers[0], numbers[-1] + 1))
    return (numbers[0], numbers[-1])


def counting(book, cell, alone):
    return [one for one in book if cell in one.cells() and (alone or one.alone)]


def numbers_of(stretches):
    """The numbers of WIDE that are in these stretches."""
    return [number for number in WIDE
            if any((low is None or low <= number) and (high is None or number <= high) for low, high in stretches)]


def are_joined(stretches):
    """Whether the stretches are sorted, and no two have neighbouring numbers."""
    for low, high in stretches:
        if low is not None and high is not None and low > high:
            return False
    return all(one[1] is not None and other[0] is not None and one[1] + 1 < other[0]
               for one, other in zip(stretches, stretches[1:]))


def line():
    """x from the day 0 to the day 100, and a stretch of ten days from it on."""
    return Book(Calendar(["s"], [("day", "s", 0), ("s", "day", 100)]), [deal("x", ("s", 0), ("s", 9))])


def cases(books):
    """All moments, cells and ways to wish, for these books."""
    for book, every in books:
        for moment in ("m", "n", ZERO):
            for cell in (CELL, ("f", "y", "w"), NONE):
                for alone in (True, False):
                    yield book, every, moment, cell, alone


class AgainstAllDates(Case):
    def test_barred_and_held(self):
        told = [0, 0]
        for book, every in small_books(151, 40):
            for moment in ("m", "n", ZERO):
                for one in book:
                    bars = [number for number in WIDE if any(are_on(book, one, dates, moment,
                                                                    number) for dates in every)]
                    holds = [number for number in WIDE if all(are_on(book, one, dates, moment,
                                                                     number) for dates in every)]
                    told[holds == []] += 1
                    self.same(barred(book, one.name, moment), stretch_of(bars))
                    self.same(held(book, one.name, moment), stretch_of(holds))
        self.assertGreater(min(told), 50)

    def test_free_and_taken(self):
        for book, every, moment, cell, alone in cases(small_books(152, 10)):
            deals = counting(book, cell, alone)
            barred_ones = [number for number in WIDE
                           if any(are_on(book, one, dates, moment, number) for one in deals for dates in every)]
            taken = [number for number in WIDE
                     if any(all(are_on(book, one, dates, moment, number) for dates in every) for one in deals)]
            free = [number for number in WIDE if number not in barred_ones]
            found = free_stretches(book, cell, moment, alone)
            self.same([type(found), numbers_of(found), are_joined(found)], [list, free, True])
            self.same([found[0][0], found[-1][1]], [None, None])
            self.same([numbers_of(taken_stretches(book, cell, moment, alone)),
                       are_joined(taken_stretches(book, cell, moment, alone))], [taken, True])
            self.check_numbers(book, every, cell, moment, alone, free)

    def check_numbers(self, book, every, cell, moment, alone, free):
        last = WIDE[-1]
        for number in WIDE[::3]:
            point = (moment, number)
            run = 0
            while number + run in free:
                run += 1
            endless = number + run > last
            self.assertIs(is_free(book, cell, point, alone), number in free)
            self.same(room_at(book, cell, point, alone), None if endless else run)
            for long in (1, 2, 5):
                starts = [at for at in range(number, last) if all(at + more in free or at + more > last
                                                                  for more in range(long))]
                self.same(earliest(book, cell, point, long, alone), starts[0] if starts else last)

    def test_bars_and_clearings(self):
        told = [0, 0]
        for book, every, moment, cell, alone in cases(small_books(153, 12)):
            for number in WIDE[::4]:
                point = (moment, number)
                bar, clearing = bar_at(book, cell, point, alone), clearing_at(book, cell, point, alone)
                free = is_free(book, cell, point, alone)
                told[free] += 1
                self.same([bar is None, clearing is None], [free, not free])
                if free:
                    self.check_clearing(book, cell, point, alone, clearing)
                else:
                    self.check_bar(book, cell, point, alone, bar)
        self.assertGreater(min(told), 100)

    def check_bar(self, book, cell, point, alone, bar):
        self.same([type(bar), len(bar), type(bar[1])], [tuple, 2, dict])
        name, dates = bar
        self.assertIn(name, [one.name for one in counting(book, cell, alone)])
        self.same(list(dates), book.calendar.moments())
        self.assertTrue(keeps(dates, book.clauses()) and are_on(book, book[name], dates, *point))
        self.assertIs(is_bar(book, cell, point, bar, alone), True)

    def check_clearing(self, book, cell, point, alone, clearing):
        self.same([type(clearing), list(clearing)], [dict, [one.name for one in counting(book, cell, alone)]])
        for name, row in clearing.items():
            self.assertIs(type(row), list)
            self.assertTrue(is_clearing_row(book, book[name], point, row))
        self.assertIs(is_clearing(book, cell, point, clearing, alone), True)

    def test_is_bar(self):
        told = [0, 0]
        for book, every, moment, cell, alone in cases(small_books(154, 8)):
            for number in WIDE[::5]:
                for dates in every[::4]:
                    for one in book:
                        expected = (one in counting(book, cell, alone)) and are_on(book, one, dates, moment, number)
                        told[expected] += 1
                        self.assertIs(is_bar(book, cell, (moment, number), (one.name, dates), alone), expected)
        self.assertGreater(min(told), 300)

    def test_without_bounds(self):
        told = [0, 0, 0]
        for book in open_books(155, 40):
            clauses = book.clauses()
            for moment in ("m", "p", ZERO):
                for one in book:
                    low = bound_by_hand(clauses, moment, one.begin[0])
                    high = bound_by_hand(clauses, one.end[0], moment)
                    expected = (None if low is None else one.begin[1] - low,
                                None if high is None else one.end[1] + high)
                    told[expected.count(None)] += 1
                    self.same(barred(book, one.name, moment), expected)
                    low = bound_by_hand(clauses, one.begin[0], moment)
                    high = bound_by_hand(clauses, moment, one.end[0])
                    both = None if low is None or high is None else (one.begin[1] + low, one.end[1] - high)
                    self.same(held(book, one.name, moment), both if both is not None and both[0] <= both[1] else None)
                for number in (-7, 0, 7):
                    bar, clearing = bar_at(book, CELL, (moment, number)), clearing_at(book, CELL, (moment, number))
                    self.same([bar is None, clearing is None, is_free(book, CELL, (moment, number))],
                              [clearing is not None, bar is not None, bar is None])
                    if bar is not None:
                        self.check_bar(book, CELL, (moment, number), True, bar)
                    else:
                        self.check_clearing(book, CELL, (moment, number), True, clearing)
        self.assertGreater(min(told), 20)

    def test_rows_of_clearings(self):
        told = [0, 0]
        for book in open_books(156, 30, names="a"):
            one = book["a"]
            cell = one.cells()[0]
            for moment in ("m", "n", ZERO):
                for number in range(-9, 10, 3):
                    rows = rows_by_hand(book.clauses(), one.end[0], moment) + rows_by_hand(book.clauses(), moment,
                                                                                           one.begin[0])
                    for row in rows:
                        expected = is_clearing_row(book, one, (moment, number), row)
                        told[expected] += 1
                        for value in (row, tuple(row)):
                            self.assertIs(is_clearing(book, cell, (moment, number), {"a": value}), expected)
        self.assertGreater(min(told), 100)


def is_clearing_row(book, one, point, row):
    """Whether by a row the deal has ended before the point, or begins later."""
    moment, number = point
    ended = is_row_by_hand(book.clauses(), one.end[0], moment, row) and total(row) + one.end[1] < number
    later = is_row_by_hand(book.clauses(), moment, one.begin[0], row) and one.begin[1] - total(row) > number
    return ended or later


class Ends(Case):
    def test_of_one_deal(self):
        book = line()
        self.same([barred(book, "x", "s"), barred(book, "x", "day"), held(book, "x", "s"), held(book, "x", "day")],
                  [(0, 9), (0, 109), (0, 9), None])
        self.same(free_stretches(book, CELL, "s"), [(None, -1), (10, None)])
        self.same(taken_stretches(book, CELL, "s"), [(0, 9)])
        self.same(taken_stretches(book, CELL, "day"), [])
        self.same([is_free(book, CELL, ("s", number)) for number in (-1, 0, 9, 10)], [True, False, False, True])
        self.same([room_at(book, CELL, ("s", number)) for number in (-3, -1, 0, 9, 10)], [3, 1, 0, 0, None])
        self.same([earliest(book, CELL, ("s", -3), long) for long in (1, 2, 3, 4, 5)], [-3, -3, -3, 10, 10])
        self.same([earliest(book, CELL, ("s", at), 1) for at in (-1, 0, 5, 10, 11)], [-1, 10, 10, 10, 11])

    def test_no_deal_counts(self):
        book = Book(line().calendar, [line()["x"].beside()])
        for asked in ((line(), NONE, True), (line(), NONE, False), (book, CELL, False)):
            one, cell, alone = asked
            self.same([free_stretches(one, cell, "s", alone), taken_stretches(one, cell, "s", alone)],
                      [[(None, None)], []])
            self.same([is_free(one, cell, ("s", 5), alone), room_at(one, cell, ("s", 5), alone)], [True, None])
            self.same([earliest(one, cell, ("s", 5), BIG, alone), bar_at(one, cell, ("s", 5), alone)], [5, None])
            self.same(clearing_at(one, cell, ("s", 5), alone), {})
            self.same([is_clearing(one, cell, ("s", 5), {}, alone), is_clearing(one, cell, ("s", 5), {"x": []}, alone)],
                      [True, False])
            self.assertIs(is_bar(one, cell, ("s", 5), ("x", {"s": 0}), alone), False)
        self.check_alone_unless_told(book)

    def check_alone_unless_told(self, book):
        self.same([free_stretches(book, CELL, "s"), taken_stretches(book, CELL, "s")],
                  [[(None, -1), (10, None)], [(0, 9)]])
        self.same([is_free(book, CELL, ("s", 5)), room_at(book, CELL, ("s", 5)), earliest(book, CELL, ("s", 5), 1)],
                  [False, 0, 10])
        self.same([bar_at(book, CELL, ("s", 5))[0], clearing_at(book, CELL, ("s", 5))], ["x", None])
        self.same([is_bar(book, CELL, ("s", 5), ("x", {"s": 0})), is_clearing(book, CELL, ("s", 5), {})], [True, False])

    def test_without_ends(self):
        book = Book(Calendar(["s"], []), [deal("x", ("s", 0), ("s", 9))])
        self.same([barred(book, "x", "s"), barred(book, "x", "day"), held(book, "x", "s"), held(book, "x", "day")],
                  [(0, 9), (None, None), (0, 9), None])
        self.same([free_stretches(book, CELL, "day"), taken_stretches(book, CELL, "day")], [[], []])
        self.same([room_at(book, CELL, ("day", 3)), earliest(book, CELL, ("day", 3), 1)], [0, None])
        later = Book(Calendar(["s"], [("day", "s", -5)]), [deal("x", ("s", 0), ("s", 9))])
        self.same([barred(later, "x", "day"), held(later, "x", "day")], [(5, None), None])
        self.same([free_stretches(later, CELL, "day"), room_at(later, CELL, ("day", 2))], [[(None, 4)], 3])
        self.same([earliest(later, CELL, ("day", 2), long) for long in (1, 3, 4)], [2, 2, None])
        self.same([earliest(later, CELL, ("day", at), 1) for at in (4, 5, 6)], [4, None, None])
        sooner = Book(Calendar(["s"], [("s", "day", 5)]), [deal("x", ("s", 0), ("s", 9))])
        self.same([barred(sooner, "x", "day"), held(sooner, "x", "day")], [(None, 14), None])
        self.same([earliest(sooner, CELL, ("day", -40), 7), room_at(sooner, CELL, ("day", 14))], [15, 0])

    def test_neighbours_are_joined(self):
        deals = [deal("a", ("day", 0), ("day", 4)), deal("b", ("day", 5), ("day", 9)),
                 deal("c", ("day", 11), ("day", 12)),
                 deal("d", ("day", 3), ("day", 6)), deal("e", ("day", 20), ("day", 20), alone=False)]
        book = Book(Calendar([], []), deals)
        self.same(free_stretches(book, CELL, "day"), [(None, -1), (10, 10), (13, 19), (21, None)])
        self.same(free_stretches(book, CELL, "day", False), [(None, -1), (10, 10), (13, None)])
        self.same(taken_stretches(book, CELL, "day"), [(0, 9), (11, 12), (20, 20)])
        self.same(taken_stretches(book, CELL, "day", alone=False), [(0, 9), (11, 12)])
        self.same([earliest(book, CELL, ("day", 0), long) for long in (1, 2, 7, 8)], [10, 13, 13, 21])

    def test_great_numbers(self):
        book = Book(Calendar(["s"], [("s", "day", BIG), ("day", "s", -BIG)]), [deal("x", ("s", -BIG), ("s", BIG))])
        self.same([barred(book, "x", "day"), held(book, "x", "day")], [(0, 2 * BIG)] * 2)
        self.same(room_at(book, CELL, ("day", -BIG)), BIG)

    def test_returned_values_are_new(self):
        book = line()
        for call in (lambda: free_stretches(book, CELL, "s"), lambda: taken_stretches(book, CELL, "s"),
                     lambda: clearing_at(book, CELL, ("s", 10)), lambda: bar_at(book, CELL, ("s", 9))[1]):
            first, again = call(), call()
            self.same(first, again)
            first.clear()
            self.same(call(), again)

    def test_by_name(self):
        book, point = line(), ("s", 9)
        self.same([barred(moment="s", name="x", book=book), held(moment="s", name="x", book=book)], [(0, 9)] * 2)
        self.same(free_stretches(alone=True, moment="s", cell=CELL, book=book), [(None, -1), (10, None)])
        self.same(taken_stretches(alone=True, moment="s", cell=CELL, book=book), [(0, 9)])
        self.same([is_free(alone=True, point=point, cell=CELL, book=book),
                   room_at(alone=True, point=point, cell=CELL, book=book),
                   earliest(alone=True, long=1, point=point, cell=CELL, book=book)], [False, 0, 10])
        bar = bar_at(alone=True, point=point, cell=CELL, book=book)
        self.assertIs(is_bar(alone=True, value=bar, point=point, cell=CELL, book=book), True)
        clearing = clearing_at(alone=True, point=("s", 10), cell=CELL, book=book)
        self.assertIs(is_clearing(alone=True, value=clearing, point=("s", 10), cell=CELL, book=book), True)


class Spoilt(Case):
    def book(self):
        return Book(Calendar(["s"], [("day", "s", 0), ("s", "day", 100)]),
                    [deal("a", ("s", 0), ("s", 9)), deal("b", ("day", 120), ("s", 150), alone=False),
                     deal("c", ("s", 0), ("s", 0), "y")])

    def test_bars(self):
        book = self.book()
        for point, value in ((("s", 0), ("a", {"s": 7})), (("s", 9), ("a", {"s": 100})), (("day", 16), ("a", {"s": 7})),
                             (("day", 120), ("b", {"s": 0})), (("s", 20), ("b", {"s": 100}))):
            self.assertIs(is_bar(book, CELL, point, value), True)
        for value in (("a", {"s": 8}), ("a", {"s": 101}), ("a", {"s": -1}), ("b", {"s": 0}), ("c", {"s": 7}),
                      ("z", {"s": 7}),
                      ["a", {"s": 0}], ("a", {"s": 0}, 0), ("a",), ("a", {}), ("a", {"s": 0, "t": 0}),
                      ("a", [("s", 0)]),
                      ({"s": 0}, "a"), (["a"], {"s": 0}), (None, {"s": 0}), ("a", None), ("a", {"s": "0"})):
            self.assertIs(is_bar(book, CELL, ("day", 7), value), False, value)
        self.assertIs(is_bar(book, CELL, ("day", 7), ("a", {"s": 0})), True)
        self.assertIs(is_bar(book, CELL, ("day", 120), ("b", {"s": 0}), False), False)
        self.assertIs(is_bar(book, CELL, ("day", 7), ("a", {"s": 0}), False), True)
        self.assertIs(is_bar(book, ("f", "y", "w"), ("day", 7), ("a", {"s": 0})), False)
        for value in ODD_VALUES:
            self.assertIs(is_bar(book, CELL, ("day", 7), value), False)
            self.assertIs(is_bar(book, CELL, ("day", 7), (value, {"s": 0})), value == "a")
            self.assertIs(is_bar(book, CELL, ("day", 7), ("a", value)), False)
            self.assertIs(is_bar(book, CELL, ("day", 7), ("a", {"s": value})), type(value) is int and value in (0, 1))

    def test_clearings(self):
        book = self.book()
        late = {"a": [("s", "day", 100)], "b": []}
        for point, value in ((("day", 110), late), (("day", 119), late),
                             (("day", 110), {"b": (), "a": (("s", "day", 100),)}),
                             (("s", 10), {"a": [], "b": [("s", "day", 100)]}),
                             (("day", -1), {"a": [("day", "s", 0)], "b": []})):
            self.assertIs(is_clearing(book, CELL, point, value), True)
        for point, value in ((("day", 109), late), (("day", 120), late),
                             (("s", 9), {"a": [], "b": [("s", "day", 100)]}),
                             (("s", 20), {"a": [], "b": [("s", "day", 100)]}),
                             (("day", 0), {"a": [("day", "s", 0)], "b": []})):
            self.assertIs(is_clearing(book, CELL, point, value), False)
        for value in ({"a": [("s", "day", 100)]}, {"b": []}, {}, {**late, "c": [("s", "day", 100)]}, {**late, "z": []},
                      {**late, None: []}, {"a": [], "b": []}, {"a": late["a"], "b": late["a"]}, {"a": None, "b": []},
                      {"a": [("s", "day", 99)], "b": []}, {"a": [["s", "day", 100]], "b": []},
                      {"a": late["a"] * 2, "b": []},
                      {"a": ("s", "day", 100), "b": []}, [("a", late["a"]), ("b", [])], None, ["a", "b"],
                      {"a": late["a"], "b": [("day", "s", 0), ("s", "day", 100)]}, {"A": late["a"], "b": []}):
            self.assertIs(is_clearing(book, CELL, ("day", 115), value), False, value)
        self.assertIs(is_clearing(book, CELL, ("day", 115), late), True)
        self.assertIs(is_clearing(book, CELL, ("day", 115), {"a": late["a"]}, False), True)
        self.assertIs(is_clearing(book, CELL, ("day", 115), late, False), False)
        for value in ODD_VALUES:
            empty = isinstance(value, (list, tuple)) and len(value) == 0
            self.assertIs(is_clearing(book, CELL, ("day", 115), value), False)
            self.assertIs(is_clearing(book, CELL, ("day", 115), {"a": late["a"], "b": value}), empty)
            self.assertIs(is_clearing(book, CELL, ("day", 115), {"a": value, "b": []}), False)
            self.assertIs(is_clearing(book, CELL, ("day", 115), {"a": [("s", "day", value)], "b": []}), False)

    def test_true_is_not_one(self):
        book = Book(Calendar(["s"], [("s", "day", 1)]), [deal("a", ("s", 0), ("s", 1))])
        self.assertIs(is_clearing(book, CELL, ("day", 3), {"a": [("s", "day", 1)]}), True)
        self.assertIs(is_clearing(book, CELL, ("day", 3), {"a": [("s", "day", True)]}), False)
        self.assertIs(is_bar(book, CELL, ("day", 1), ("a", {"s": 1})), True)
        self.assertIs(is_bar(book, CELL, ("day", 1), ("a", {"s": True})), False)


POINT_CALLS = (is_free, room_at, lambda book, cell, point: earliest(book, cell, point, None), bar_at, clearing_at,
               lambda book, cell, point: is_bar(book, cell, point, None),
               lambda book, cell, point: is_clearing(book, cell, point, None))


class Wrong(Case):
    def test_names_and_moments(self):
        for call in (barred, held):
            for value in ODD_VALUES + ["s", "z", "xx"]:
                self.raised(UnknownDeal, lambda: call(line(), value, "s"), value=value)
                self.raised(UnknownDeal, lambda: call(line(), value, "z"), value=value)
            for value in [value for value in ODD_VALUES if value != "day"] + ["x", "m", ("s", 0)]:
                self.raised(InvalidMoment, lambda: call(line(), "x", value), value=value)

    def test_cells_and_moments(self):
        for call in (free_stretches, taken_stretches):
            for value in wrong_cells():
                self.raised(InvalidCell, lambda: call(line(), value, "s"), value=value)
                self.raised(InvalidCell, lambda: call(line(), value, "z", False), value=value)
            for value in [value for value in ODD_VALUES if value != "day"] + ["x", "m", ("s", 0)]:
                self.raised(InvalidMoment, lambda: call(line(), CELL, value), value=value)
                self.raised(InvalidMoment, lambda: call(line(), NONE, value, False), value=value)

    def test_cells_and_points(self):
        for call in POINT_CALLS:
            for value in wrong_cells():
                self.raised(InvalidCell, lambda: call(line(), value, ("s", 0)), value=value)
                self.raised(InvalidCell, lambda: call(line(), value, None), value=value)
            for value in ODD_VALUES + ["s", ("s",), ["s", 0], ("m", 0), ("s", True), ("s", "0"), (0, "s"), ("s", 0, 0),
                                       ("day", None), (None, 0), ("x", 0)]:
                self.raised(InvalidPoint, lambda: call(line(), CELL, value), value=value)
                self.raised(InvalidPoint, lambda: call(line(), NONE, value), value=value)

    def test_numbers_of_days(self):
        for value in odd_but(int) + [0, -1, -BIG, "1"]:
            self.raised(InvalidNumber, lambda: earliest(line(), CELL, ("s", 0), value), value=value)
            self.raised(InvalidNumber, lambda: earliest(line(), NONE, ("s", 0), value, False), value=value)
            self.raised(InvalidPoint, lambda: earliest(line(), NONE, ("z", 0), value, False), value=("z", 0))
        for value in (True, False):
            self.raised(InvalidNumber, lambda: earliest(line(), CELL, ("s", 0), value), value=value)
