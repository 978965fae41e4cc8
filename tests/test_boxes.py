"""[65] and [66]: delays of an offer, and greatest free boxes, against all dates and all boxes, one by one."""

from letdays.books import Book
from letdays.boxes import barred_delays, free_delays, greatest_boxes, is_free_box, least_delay
from letdays.calendars import Calendar
from letdays.deals import Deal
from letdays.errors import (InvalidDeal, InvalidMoment, InvalidName, InvalidNames, InvalidNumber, NoDates, TooMany,
                            UnknownDeal)
from letdays.windows import Window, free_stretches
from tests.support import Case, ODD_VALUES, ZERO, bound_by_hand, dates_by_hand, deal, lots_of, numbers, odd_but
from tests.support import open_books, point_day, rings_by_hand, small_books, some_deal

BIG = 10 ** 29
WIDE = range(-30, 31)


def touch(one, other):
    return any(cell in other.cells() for cell in one.cells()) and (one.alone or other.alone)


def meet(one, other, dates, days):
    """Whether one is on together with the other one, moved by so many days."""
    return (point_day(dates, one.begin) <= point_day(dates, other.end) + days
            and point_day(dates, other.begin) + days <= point_day(dates, one.end))


def kept_dates(every, offer):
    """The dates that keep the own clause of the offer, too."""
    return [dates for dates in every if point_day(dates, offer.begin) <= point_day(dates, offer.end)]


def delays_by_hand(one, offer, every):
    """The stretch of the delays that the deal bars; None if there are none."""
    if one.name == offer.name or not touch(one, offer):
        return None
    found = [days for days in WIDE if any(meet(one, offer, dates, days) for dates in every)]
    assert found == list(range(found[0], found[-1] + 1))
    return (found[0], found[-1])


def line():
    """The book of the document's example."""
    return Book(Calendar(["s"], [("day", "s", 0), ("s", "day", 100)]), [deal("x", ("s", 0), ("s", 9))])


def offers(seed):
    """Small books with all their dates, and offers, some of them with the name of a deal."""
    source = numbers(seed)
    for book, every in small_books(seed + 1, 90):
        for name in ("a", "e"):
            yield book, every, some_deal(source, name, ["m", "n"], 6, 3)


class Delays(Case):
    def test_against_all_dates(self):
        told = [0, 0, 0]
        for book, every, offer in offers(171):
            kept = kept_dates(every, offer)
            if not kept:
                told[0] += 1
                for call in (lambda: barred_delays(book, "b", offer), lambda: free_delays(book, offer),
                             lambda: least_delay(book, offer, 3)):
                    self.raised(NoDates, call)
                continue
            free = list(WIDE)
            for one in book:
                expected = delays_by_hand(one, offer, kept)
                told[1 + (expected is None)] += 1
                self.same(barred_delays(book, one.name, offer), expected)
                if expected is not None:
                    free = [days for days in free if not expected[0] <= days <= expected[1]]
            window = free_delays(book, offer)
            self.assertIs(type(window), Window)
            self.same([days for days in WIDE if days in window], free)
            self.same([window.stretches[0][0], window.stretches[-1][1]], [None, None])
            for since in (-12, -3, 0, 4):
                self.same(least_delay(book, offer, since), min(days for days in free if days >= since))
        self.assertGreater(min(told), 3)

    def test_without_bounds(self):
        source = numbers(173)
        told = [0, 0, 0]
        for book in open_books(174, 60):
            offer = some_deal(source, "e", ["m", "n", "p"], 4, 6)
            clauses = book.clauses() + ([offer.own_clause()] if offer.own_clause() else [])
            if rings_by_hand(clauses):
                self.raised(NoDates, lambda: free_delays(book, offer))
                continue
            barred = []
            for one in book:
                low = bound_by_hand(clauses, offer.end[0], one.begin[0])
                high = bound_by_hand(clauses, one.end[0], offer.begin[0])
                stretch = (None if low is None else one.begin[1] - offer.end[1] - low,
                           None if high is None else one.end[1] - offer.begin[1] + high)
                told[stretch.count(None)] += 1
                self.same(barred_delays(book, one.name, offer), stretch if touch(one, offer) else None)
                barred += [stretch] if touch(one, offer) else []
            self.assertIs(free_delays(book, offer) == -Window(barred), True)
            starts = [low for low, high in free_delays(book, offer) if low is not None and low > -5]
            expected = -5 if -5 in free_delays(book, offer) else starts[0] if starts else None
            self.same(least_delay(book, offer, -5), expected)
        self.assertGreater(min(told), 10)

    def test_ordinary(self):
        book, offer = line(), deal("y", ("s", 0), ("s", 4))
        self.same([barred_delays(book, "x", offer), free_delays(book, offer).stretches],
                  [(-4, 9), [(None, -5), (10, None)]])
        self.same([least_delay(book, offer), least_delay(book, offer, -5), least_delay(book, offer, -4),
                   least_delay(book, offer, 9), least_delay(book, offer, 11)], [10, -5, 10, 10, 11])
        fixed = deal("y", ("day", 0), ("day", 4))
        self.same([barred_delays(book, "x", fixed), least_delay(book, fixed)], [(-4, 109), 110])

    def test_the_own_name_is_left_out(self):
        book = Book(line().calendar, [line()["x"], deal("y", ("s", 5), ("s", 6))])
        offer = deal("x", ("s", 0), ("s", 4))
        self.same([barred_delays(book, "x", offer), barred_delays(book, "y", offer)], [None, (1, 6)])
        self.same([free_delays(book, offer).stretches, least_delay(book, offer, 1)], [[(None, 0), (7, None)], 7])
        self.same(least_delay(line(), offer, -BIG), -BIG)

    def test_its_own_clause_counts(self):
        # The offer lets s be on the day 20 at most, so x has ended on the day 29.
        book, offer = line(), deal("y", ("s", 10), ("day", 30))
        self.same(barred_delays(book, "x", offer), (-30, -1))
        self.same(barred_delays(book, "x", deal("y", ("day", 0), ("day", 30))), (-30, 109))
        self.raised(NoDates, lambda: least_delay(book, deal("y", ("s", 10), ("day", 9))))
        self.same(barred_delays(book, "x", deal("y", ("s", 10), ("day", 10))), (-10, -1))
        # So it does where no deal touches it.
        self.raised(NoDates, lambda: free_delays(Book(book.calendar, []), deal("y", ("s", 10), ("day", 9))))
        self.raised(NoDates, lambda: barred_delays(book, "x", deal("x", ("s", 10), ("day", 9))))
        self.raised(NoDates, lambda: barred_delays(book, "x", deal("y", ("s", 10), ("day", 9), "y")))

    def test_own_clauses_of_all_deals_count(self):
        book = Book(line().calendar, [line()["x"], deal("z", ("s", 0), ("day", 7), "q")])
        self.same(barred_delays(book, "x", deal("y", ("day", 0), ("day", 0))), (0, 16))
        self.same(barred_delays(book, "x", deal("z", ("day", 0), ("day", 0))), (0, 16))

    def test_only_what_touches_bars(self):
        book = Book(line().calendar, [line()["x"].beside()])
        self.same(barred_delays(book, "x", deal("y", ("s", 0), ("s", 4))), (-4, 9))
        self.same(barred_delays(book, "x", deal("y", ("s", 0), ("s", 4), alone=False)), None)
        self.same(barred_delays(book, "x", deal("y", ("s", 0), ("s", 4), "y")), None)
        self.same(free_delays(book, deal("y", ("s", 0), ("s", 4), "y")).stretches, [(None, None)])
        self.same(least_delay(Book(book.calendar, []), deal("y", ("s", 0), ("s", 4))), 0)

    def test_no_delay_is_free(self):
        book = Book(Calendar(["s"], []), [deal("x", ("s", 0), ("s", 9))])
        offer = deal("y", ("day", 0), ("day", 0))
        self.same([barred_delays(book, "x", offer), free_delays(book, offer).stretches, least_delay(book, offer)],
                  [(None, None), [], None])
        later = Book(Calendar(["s"], [("day", "s", 0)]), [deal("x", ("s", 0), ("s", 9))])
        self.same([least_delay(later, offer, since) for since in (-4, -1, 0, 1)], [-4, -1, None, None])

    def test_with_many_clauses(self):
        calendar = Calendar(["s"], [("s", "day", at) for at in range(40)])
        book = Book(calendar, [deal("x", ("s", 0), ("s", 9))])
        offer = deal("y", ("day", 3), ("s", 20))
        self.same(offer.own_clause(), ("day", "s", 17))
        self.raised(TooMany, lambda: book.with_deal(offer), what="clauses", limit=40)
        self.same([barred_delays(book, "x", offer), least_delay(book, offer, -20)], [(-20, 6), 7])

    def test_wrong_values(self):
        book, offer = line(), deal("y", ("s", 0), ("s", 4))
        strange = deal("y", ("m", 0), ("s", 4))
        for value in ODD_VALUES + [strange, deal("x", ("s", 0), ("t", 1)), book, "x"]:
            self.raised(InvalidDeal, lambda: barred_delays(book, "x", value), value=value)
            self.raised(InvalidDeal, lambda: free_delays(book, value), value=value)
            self.raised(InvalidDeal, lambda: least_delay(book, value, "x"), value=value)
        for value in ODD_VALUES + ["z", "xx", book["x"]]:
            self.raised(UnknownDeal, lambda: barred_delays(book, value, offer), value=value)
            self.raised(UnknownDeal, lambda: barred_delays(book, value, None), value=value)
            self.raised(UnknownDeal, lambda: barred_delays(book, value, deal("y", ("s", 10), ("day", 9))), value=value)
        for value in odd_but(int) + ["0"]:
            self.raised(InvalidNumber, lambda: least_delay(book, offer, value), value=value)
            self.raised(InvalidNumber, lambda: least_delay(book, deal("y", ("s", 10), ("day", 9)), value), value=value)
        for value in (True, False):
            self.raised(InvalidNumber, lambda: least_delay(book, offer, value), value=value)

    def test_by_name(self):
        book, offer = line(), deal("y", ("s", 0), ("s", 4))
        self.same(barred_delays(offer=offer, name="x", book=book), (-4, 9))
        self.same(free_delays(offer=offer, book=book).stretches, [(None, -5), (10, None)])
        self.same(least_delay(since=-9, offer=offer, book=book), -9)


def is_free_by_hand(book, film, place, moment, alone, number, every):
    """Whether no deal that counts for a cell is on at the number in any of these dates."""
    for one in book:
        cells = [(film, land, way) for land in place[0] for way in place[1]]
        if any(cell in one.cells() for cell in cells) and (alone or one.alone):
            for dates in every:
                at = number + (0 if moment == ZERO else dates[moment])
                if point_day(dates, one.begin) <= at <= point_day(dates, one.end):
                    return False
    return True


def stretches_of(found):
    rows = []
    for number in WIDE:
        if number in found:
            if rows and rows[-1][1] == number - 1:
                rows[-1] = (rows[-1][0], number)
            else:
                rows.append((number, number))
    return [(None if low == WIDE[0] else low, None if high == WIDE[-1] else high) for low, high in rows]


def is_within(box, other):
    def has(stretch, number):
        return (stretch[0] is None or stretch[0] <= number) and (stretch[1] is None or number <= stretch[1])
    far = [number for number in range(-40, 121) if has(box[2], number)]
    return set(box[0]) <= set(other[0]) and set(box[1]) <= set(other[1]) and all(has(other[2],
                                                                                     number) for number in far)


def boxes_by_hand(book, film, lands, ways, moment, alone, every):
    """All greatest boxes, by lands, ways and stretches."""
    found = []
    for some in lots_of(lands)[1:]:
        for by in lots_of(ways)[1:]:
            place = (tuple(some), tuple(by))
            free = [number for number in WIDE if is_free_by_hand(book, film, place, moment, alone, number, every)]
            found += [place + (stretch,) for stretch in stretches_of(free)]
    great = [box for box in found if not any(is_within(box, other) for other in found if other != box)]
    return sorted(great, key=lambda box: (box[0], box[1], -BIG if box[2][0] is None else box[2][0]))


def wide_books(seed, count):
    """Books of deals in several lands and ways, with their dates."""
    source = numbers(seed)
    calendar = Calendar(["m"], [("m", "day", 3), ("day", "m", 0)])
    found = []
    for _ in range(count):
        deals = []
        for name in "abcdef"[:source.randint(0, 6)]:
            lands, ways = source.sample(["x", "y", "z"], source.randint(1, 2)), source.sample(["v", "w"],
                                                                                              source.randint(1, 2))
            moment, first = source.choice(["m", ZERO]), source.randint(-9, 9)
            films = source.choice([["f"], ["f", "g"], ["g"]])
            deals.append(Deal(name, "h", films, lands, ways, (moment, first), (moment, first + source.randint(0, 6)),
                              alone=source.choice([True, True, False])))
        found.append((Book(calendar, deals), dates_by_hand(["m"], calendar.clauses(), 0, 3)))
    return found


class Boxes(Case):
    def test_against_all_boxes(self):
        most = 0
        for book, every in wide_books(181, 12):
            for moment in ("m", ZERO):
                for lands, ways in ((["x", "y", "z"], ["v", "w"]), (["z", "x"], ["w"]), (("q",), ("w", "u"))):
                    for alone in (True, False):
                        expected = boxes_by_hand(book, "f", lands, ways, moment, alone, every)
                        most = max(most, len(expected))
                        for asked in ((lands, ways), (tuple(lands[::-1]), list(ways[::-1]))):
                            self.same(greatest_boxes(book, "f", *asked, moment, alone), expected)
                        for box in expected:
                            self.assertIs(is_free_box(book, "f", box, moment, alone), True)
        self.assertGreater(most, 5)

    def test_is_free_box(self):
        told = [0, 0]
        source = numbers(182)
        for book, every in wide_books(183, 25):
            for _ in range(60):
                lands = tuple(sorted(source.sample(["x", "y", "z", "q"], source.randint(1, 3))))
                ways = tuple(sorted(source.sample(["v", "w"], source.randint(1, 2))))
                low = source.choice([None] + list(range(-14, 15)))
                high = source.choice([None] + list(range(-14, 15))) if low is None else source.choice([None, low,
                                                                                                       low + 2])
                moment, alone = source.choice(["m", ZERO]), source.choice([True, False])
                asked = [number for number in range(-20, 21)
                         if (low is None or low <= number) and (high is None or number <= high)]
                expected = all(is_free_by_hand(book, "f", (lands, ways), moment, alone, number,
                                               every) for number in asked)
                told[expected] += 1
                self.assertIs(is_free_box(book, "f", (lands, ways, (low, high)), moment, alone), expected)
        self.assertGreater(min(told), 200)

    def test_of_one_cell_they_are_the_free_stretches(self):
        for book in open_books(184, 30):
            for moment in ("m", "p", ZERO):
                for alone in (True, False):
                    expected = [(("x",), ("w",), stretch) for stretch in free_stretches(book, ("f", "x", "w"), moment,
                                                                                        alone)]
                    self.same(greatest_boxes(book, "f", ["x"], ["w"], moment, alone), expected)

    def test_ordinary(self):
        book = Book(Calendar(["s"], [("day", "s", 0), ("s", "day", 100)]),
                    [Deal("x", "h", ["f"], ["l"], ["w"], ("s", 0), ("s", 9))])
        expected = [(("k",), ("w",), (None, None)), (("k", "l"), ("w",), (None, -1)), (("k", "l"), ("w",), (10, None))]
        self.same(greatest_boxes(book, "f", ["l", "k"], ["w"], "s"), expected)
        self.same(greatest_boxes(book, "g", ["l", "k"], ["w"], "s"), [(("k", "l"), ("w",), (None, None))])
        self.same(greatest_boxes(book, "f", ["l"], ["w"], "day"),
                  [(("l",), ("w",), (None, -1)), (("l",), ("w",), (110, None))])
        beside = Book(book.calendar, [book["x"].beside()])
        self.same(greatest_boxes(beside, "f", ["l", "k"], ["w"], "s"), expected)
        self.same(greatest_boxes(beside, "f", ["l", "k"], ["w"], "s", False), [(("k", "l"), ("w",), (None, None))])
        self.same(greatest_boxes(Book(Calendar([], []), []), "f", ["l"], ["w", "v"], "day"),
                  [(("l",), ("v", "w"), (None, None))])

    def test_nothing_is_free(self):
        book = Book(Calendar(["s"], []), [Deal("x", "h", ["f"], ["l"], ["w"], ("s", 0), ("s", 9))])
        self.same(greatest_boxes(book, "f", ["l"], ["w"], "day"), [])
        self.same(greatest_boxes(book, "f", ["l", "k"], ["w"], "day"), [(("k",), ("w",), (None, None))])

    def test_four_lands_and_three_ways(self):
        deals = [Deal(name, "h", ["f"], [land], [way], ("day", 9 * at), ("day", 9 * at + 3)) for at, (name, land, way)
                 in enumerate(zip("abcdefghij", "klmnklmnkl", "uvwuvwuvwu"))]
        book = Book(Calendar([], []), deals)
        every = [{}]
        found = greatest_boxes(book, "f", list("nmlk"), list("wvu"), "day")
        places = [(tuple(lands), tuple(ways)) for lands in lots_of("klmn")[1:] for ways in lots_of("uvw")[1:]]
        self.assertIn((tuple("klmn"), tuple("uvw"), (None, -1)), found)
        self.same(sorted(set(box[:2] for box in found)), [place for place in sorted(places)
                                                          if place in [box[:2] for box in found]])
        for box in found:
            self.assertIs(is_free_box(book, "f", box, "day"), True)
            self.assertFalse(any(is_within(box, other) for other in found if other != box))
            for number in [end for end in box[2] if end is not None]:
                self.assertTrue(is_free_by_hand(book, "f", box[:2], ZERO, True, number, every))

    def test_boxes_of_any_kind(self):
        book = line()
        for value in ((("x",), ("w",), (10, 12)), (("x", "y"), ("v", "w"), (None, -1)), (("q",), ("w",), (None, None)),
                      (("x",), ("v",), (0, 0)), (tuple("abcdefg"), tuple("abcdefg"), (None, None))):
            self.assertIs(is_free_box(book, "f", value, "s"), True)
        for value in ((("x",), ("w",), (9, 12)), (("x",), ("w",), (None, 0)), (("x", "y"), ("v", "w"), (None, None)),
                      [("x",), ("w",), (10, 12)], (["x"], ("w",), (10, 12)), (("x",), ["w"], (10, 12)),
                      (("x",), ("w",), [10, 12]), ((), ("w",), (10, 12)), (("x",), (), (10, 12)), (("x",), ("w",)),
                      (("x",), ("w",), (10, 12), 0), (("y", "x"), ("w",), (10, 12)), (("x", "x"), ("w",), (10, 12)),
                      (("x",), ("w", "v"), (10, 12)), (("x",), ("w", "w"), (10, 12)), (("x", "day"), ("w",), (10, 12)),
                      (("X",), ("w",), (10, 12)), (("x",), ("w",), (12, 10)), (("x",), ("w",), (True, 12)),
                      (("x",), ("w",), (10,)), (("x",), ("w",), None), ("x", "w", (10, 12)),
                      (("x",), ("w",), ("10", 12)),
                      (("x", 1), ("w",), (10, 12)), (("x",), (None,), (10, 12)), None, {}, "xw"):
            self.assertIs(is_free_box(book, "f", value, "s"), False, value)
        for value in ODD_VALUES:
            self.assertIs(is_free_box(book, "f", value, "s"), False)
            self.assertIs(is_free_box(book, "f", (value, ("w",), (10, 12)), "s"), value == ("a",))
            self.assertIs(is_free_box(book, "f", (("x",), value, (10, 12)), "s"), value == ("a",))
            self.assertIs(is_free_box(book, "f", (("x",), ("w",), value), "s"), False)
            self.assertIs(is_free_box(book, "f", ((value,), ("w",), (10, 12)), "s"), value == "a")
            self.assertIs(is_free_box(book, "f", (("x",), ("w",), (10, value)), "s"), value is None or value == BIG)
            self.assertIs(is_free_box(book, "f", (("x",), ("w",), (value, -1)), "s"),
                          value is None or (type(value) is int and value == -1))

    def test_alone_or_beside(self):
        book, box = Book(line().calendar, [line()["x"].beside()]), (("x",), ("w",), (0, 9))
        self.same([is_free_box(book, "f", box, "s"), is_free_box(book, "f", box, "s", True)], [False, False])
        self.assertIs(is_free_box(book, "f", box, "s", False), True)

    def test_returned_values_are_new(self):
        book, lands, ways = line(), ["y", "x"], ["w", "v"]
        first = greatest_boxes(book, "f", lands, ways, "s")
        again = greatest_boxes(book, "f", lands, ways, "s")
        first.clear()
        self.same(greatest_boxes(book, "f", lands, ways, "s"), again)
        self.same([lands, ways], [["y", "x"], ["w", "v"]])

    def test_by_name(self):
        book = line()
        self.same(greatest_boxes(alone=False, moment="s", ways=["w"], lands=["x"], film="f", book=book),
                  [(("x",), ("w",), (None, -1)), (("x",), ("w",), (10, None))])
        self.same(is_free_box(alone=False, moment="s", value=(("x",), ("w",), (10, None)), film="f", book=book), True)


class WrongBoxes(Case):
    def test_films(self):
        for value in [value for value in ODD_VALUES if value != "a"] + ["F", "f1", ["f"], "longest"]:
            self.raised(InvalidName, lambda: greatest_boxes(line(), value, ["x"], ["w"], "s"), value=value)
            self.raised(InvalidName, lambda: greatest_boxes(line(), value, None, [], "z"), value=value)
            self.raised(InvalidName, lambda: is_free_box(line(), value, None, "s"), value=value)
            self.raised(InvalidName, lambda: is_free_box(line(), value, None, "z"), value=value)

    def test_lands_and_ways(self):
        wrong = [(value, None) for value in ODD_VALUES if not isinstance(value, (list, tuple))] + [([], None),
                                                                                                   ((), None)]
        for value in [value for value in ODD_VALUES if value != "a"]:
            wrong += [([value], 0), (("x", value), 1), (["x", "y", value, None], 2)]
        wrong += [(["x", "x"], 1), (["x", "y", "x", "day"], 2), (["x", "day"], 1), (["x", "X"], 1), (list("abcda"), 4)]
        for value, position in wrong:
            self.raised(InvalidNames, lambda: greatest_boxes(line(), "f", value, ["w"], "s"), position=position)
            self.raised(InvalidNames, lambda: greatest_boxes(line(), "f", ["x"], value, "s"), position=position)
            self.raised(InvalidNames, lambda: greatest_boxes(line(), "f", value, [None] * 9, "z"), position=position)
            self.raised(InvalidNames, lambda: greatest_boxes(line(), "f", list("abcde"), value, "z"), position=position)

    def test_moments(self):
        for value in [value for value in ODD_VALUES if value != "day"] + ["x", "m", ("s", 0)]:
            self.raised(InvalidMoment, lambda: greatest_boxes(line(), "f", ["x"], ["w"], value), value=value)
            self.raised(InvalidMoment, lambda: greatest_boxes(line(), "f", list("abcde"), list("abcd"), value),
                        value=value)
            self.raised(InvalidMoment, lambda: is_free_box(line(), "f", None, value), value=value)

    def test_too_many(self):
        self.raised(TooMany, lambda: greatest_boxes(line(), "f", list("abcde"), ["w"], "s"), what="lands", limit=4)
        self.raised(TooMany, lambda: greatest_boxes(line(), "f", list("abcd"), list("abcd"), "s"), what="ways", limit=3)
        self.raised(TooMany, lambda: greatest_boxes(line(), "f", list("abcde"), list("abcd"), "s"), what="lands",
                    limit=4)
        self.same(len(greatest_boxes(line(), "f", list("abcd"), list("abc"), "s")), 1)
