"""[23] and [24]: what is on in dates, gone through day by day."""

from letdays.books import Book
from letdays.calendars import Calendar
from letdays.deals import Deal
from letdays.diaries import busiest, clashes, diary, is_dates, on_at
from letdays.errors import InvalidCell, InvalidDates, InvalidNumber
from tests.support import Case, ODD_VALUES, dates_by_hand, numbers, odd_but, point_day

CELL = ("f", "x", "w")
BIG = 10 ** 30 - 1
LONG = range(-8, 20)


def deal(name, begin, end, lands="x", alone=True):
    return Deal(name, "h", ["f"], list(lands), ["w"], begin, end, alone=alone)


def small_books(seed, count):
    """Books of the moments m and n, both from the day 0 to the day 3, whose deals have days in LONG."""
    source = numbers(seed)
    calendar = Calendar(["m", "n"], [("m", "day", 3), ("day", "m", 0), ("n", "day", 3), ("day", "n", 0)])
    books = []
    for _ in range(count):
        deals = []
        for name in "abcde"[:source.randint(1, 5)]:
            begin = (source.choice(["m", "n", "day"]), source.randint(-3, 3))
            end = (source.choice(["m", "n", "day"]), begin[1] + source.randint(3, 6))
            lands = source.choice(["x", "y", "xy"])
            deals.append(deal(name, begin, end, lands, source.choice([True, False])))
        books.append(Book(calendar, deals))
    return books


def on_by_hand(book, dates, cell, day):
    return [one.name for one in book
            if cell in one.cells() and point_day(dates, one.begin) <= day <= point_day(dates, one.end)]


def diary_by_hand(book, dates, cell):
    found = []
    for day in LONG:
        names = on_by_hand(book, dates, cell, day)
        if names and found and found[-1][1] == day - 1 and found[-1][2] == names:
            found[-1] = (found[-1][0], day, names)
        elif names:
            found.append((day, day, names))
    return found


def busiest_by_hand(book, dates, cell):
    most = (0, None)
    for day in LONG:
        count = len(on_by_hand(book, dates, cell, day))
        if count > most[0]:
            most = (count, day)
    return most


def clashes_by_hand(book, dates):
    found = []
    for one in book:
        for other in book:
            common = [cell for cell in one.cells() if cell in other.cells()]
            if one.name < other.name and common and (one.alone or other.alone):
                both = [day for day in LONG if all(
                    point_day(dates, each.begin) <= day <= point_day(dates, each.end) for each in (one, other))]
                if both:
                    found.append((one.name, other.name, both[0], both[-1]))
    return found


class DayByDay(Case):
    def test_small_books(self):
        for book in small_books(41, 40):
            for dates in dates_by_hand(["m", "n"], book.clauses(), 0, 3):
                self.same(clashes(book, dates), clashes_by_hand(book, dates))
                for cell in (CELL, ("f", "y", "w"), ("f", "x", "v")):
                    self.same(diary(book, dates, cell), diary_by_hand(book, dates, cell))
                    self.same(busiest(book, dates, cell), busiest_by_hand(book, dates, cell))
                    for day in LONG:
                        self.same(on_at(book, dates, cell, day), on_by_hand(book, dates, cell, day))

    def test_is_dates(self):
        for book in small_books(42, 20):
            every = dates_by_hand(["m", "n"], book.clauses(), 0, 3)
            for dates in dates_by_hand(["m", "n"], [], -1, 4):
                self.assertIs(is_dates(book, dates), dates in every)


class Stretches(Case):
    def book(self, *deals):
        return Book(Calendar([]), deals)

    def test_neighbours(self):
        book = self.book(deal("a", ("day", 0), ("day", 4)), deal("b", ("day", 5), ("day", 5)))
        self.same(diary(book, {}, CELL), [(0, 4, ["a"]), (5, 5, ["b"])])
        self.same(clashes(book, {}), [])
        self.same(busiest(book, {}, CELL), (1, 0))

    def test_gaps(self):
        book = self.book(deal("b", ("day", 0), ("day", 1)), deal("a", ("day", 3), ("day", 4)))
        self.same(diary(book, {}, CELL), [(0, 1, ["b"]), (3, 4, ["a"])])

    def test_one_within_the_other(self):
        book = self.book(deal("a", ("day", 2), ("day", 3)), deal("b", ("day", 0), ("day", 9)))
        self.same(diary(book, {}, CELL), [(0, 1, ["b"]), (2, 3, ["a", "b"]), (4, 9, ["b"])])
        self.same(clashes(book, {}), [("a", "b", 2, 3)])
        self.same(busiest(book, {}, CELL), (2, 2))

    def test_one_day_in_common(self):
        book = self.book(deal("a", ("day", 0), ("day", 3)), deal("b", ("day", 3), ("day", 5)))
        self.same(clashes(book, {}), [("a", "b", 3, 3)])
        self.same(diary(book, {}, CELL), [(0, 2, ["a"]), (3, 3, ["a", "b"]), (4, 5, ["b"])])

    def test_the_earliest_of_the_busiest_days(self):
        book = self.book(deal("a", ("day", 5), ("day", 6)), deal("b", ("day", 6), ("day", 9)),
                         deal("c", ("day", 9), ("day", 12)), deal("d", ("day", 20), ("day", 30)))
        self.same(busiest(book, {}, CELL), (2, 6))

    def test_no_deal_with_the_cell(self):
        book = self.book(deal("a", ("day", 0), ("day", 4), "y"))
        self.same([diary(book, {}, CELL), busiest(book, {}, CELL), on_at(book, {}, CELL, 2)], [[], (0, None), []])
        self.same([diary(self.book(), {}, CELL), busiest(self.book(), {}, CELL), clashes(self.book(), {})],
                  [[], (0, None), []])

    def test_alone_and_beside(self):
        points = [("day", 0), ("day", 4)]
        beside = [deal("a", *points, alone=False), deal("b", *points, alone=False), deal("c", *points)]
        self.same(clashes(self.book(*beside[:2]), {}), [])
        self.same(clashes(self.book(*beside), {}), [("a", "c", 0, 4), ("b", "c", 0, 4)])
        self.same(diary(self.book(*beside), {}, CELL), [(0, 4, ["a", "b", "c"])])

    def test_thirty_digits(self):
        book = Book(Calendar(["m"]), [deal("a", ("m", 0), ("m", BIG)), deal("b", ("m", BIG), ("m", BIG))])
        self.same(diary(book, {"m": -BIG}, CELL), [(-BIG, -1, ["a"]), (0, 0, ["a", "b"])])
        self.same(busiest(book, {"m": BIG}, CELL), (2, 2 * BIG))
        self.same(on_at(book, {"m": -BIG}, CELL, -BIG), ["a"])
        self.same(clashes(book, {"m": 0}), [("a", "b", BIG, BIG)])

    def test_by_name(self):
        book = self.book(deal("a", ("day", 0), ("day", 4)))
        self.same(diary(cell=CELL, dates={}, book=book), [(0, 4, ["a"])])
        self.same(busiest(cell=CELL, dates={}, book=book), (1, 0))
        self.same(on_at(day=4, cell=CELL, dates={}, book=book), ["a"])
        self.same(clashes(dates={}, book=book), [])
        self.assertIs(is_dates(value={}, book=book), True)


class Wrong(Case):
    def book(self):
        calendar = Calendar(["m", "n"], [("m", "day", 3), ("day", "m", 0)])
        return Book(calendar, [deal("a", ("m", 0), ("n", 0)), deal("b", ("day", 0), ("m", 1))])

    def wrong_dates(self):
        return ODD_VALUES + [{"m": 4, "n": 5}, {"m": 2, "n": 1}, {"m": 1}, {"m": 1, "n": True}, {"m": False, "n": 3},
                             {"m": 1, "n": 2, "day": 0}, {"m": 1, "n": 2, "o": 3}, {"m": 1, "n": None}, [("m", 1)]]

    def test_is_dates(self):
        self.assertIs(is_dates(self.book(), {"n": 1, "m": 1}), True)
        for value in self.wrong_dates():
            self.assertIs(is_dates(self.book(), value), False)

    def test_dates(self):
        for value in self.wrong_dates():
            self.raised(InvalidDates, lambda: on_at(self.book(), value, CELL, 1), value=value)
            self.raised(InvalidDates, lambda: diary(self.book(), value, CELL), value=value)
            self.raised(InvalidDates, lambda: busiest(self.book(), value, CELL), value=value)
            self.raised(InvalidDates, lambda: clashes(self.book(), value), value=value)

    def test_cells(self):
        dates = {"m": 1, "n": 2}
        for value in ODD_VALUES + [["f", "x", "w"], ("f", "x"), ("f", "x", "day"), ("f", "x", "w", "w"), ("f", "x", 1)]:
            self.raised(InvalidCell, lambda: on_at(self.book(), dates, value, 1), value=value)
            self.raised(InvalidCell, lambda: diary(self.book(), dates, value), value=value)
            self.raised(InvalidCell, lambda: busiest(self.book(), dates, value), value=value)

    def test_days(self):
        dates = {"m": 1, "n": 2}
        for value in odd_but(int):
            for cell in (CELL, ("f", "z", "w")):
                self.raised(InvalidNumber, lambda: on_at(self.book(), dates, cell, value), value=value)

    def test_the_first_of_several(self):
        self.raised(InvalidDates, lambda: on_at(self.book(), {}, None, None), value={})
        self.raised(InvalidDates, lambda: diary(self.book(), {}, None), value={})
        self.raised(InvalidDates, lambda: busiest(self.book(), {}, None), value={})
        self.raised(InvalidCell, lambda: on_at(self.book(), {"m": 1, "n": 2}, None, None), value=None)

    def test_dates_stay(self):
        dates = {"n": 2, "m": 1}
        for call in (lambda: on_at(self.book(), dates, CELL, 1), lambda: diary(self.book(), dates, CELL),
                     lambda: busiest(self.book(), dates, CELL), lambda: clashes(self.book(), dates)):
            first = call()
            self.same(call(), first)
        self.same(dates, {"n": 2, "m": 1})
