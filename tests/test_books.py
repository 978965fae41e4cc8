"""[22]: the class Book."""

from letdays.books import Book
from letdays.calendars import Calendar
from letdays.deals import Deal
from letdays.errors import (InvalidCalendar, InvalidCell, InvalidDeal, InvalidDeals, NameTaken, NoDates, TooMany,
                            UnknownDeal, UnknownHouse)
from tests.support import Case, ODD_VALUES, keeps, odd_but

CLAUSES = [("day", "m", -10), ("m", "day", 40)]
CALENDAR = Calendar(["n", "m"], CLAUSES)


def deal(name, begin, end, films="f", lands="x", ways="w", house="h", alone=True):
    """A deal whose films, lands and ways are told by single letters."""
    return Deal(name, house, list(films), list(lands), list(ways), begin, end, alone=alone)


A = deal("a", ("m", 0), ("m", 29), lands="xy")
B = deal("b", ("day", 60), ("m", 80), lands="y", ways="vw", house="k", alone=False)
C = deal("c", ("n", 5), ("m", 5), films="g", house="k")
D = deal("d", ("day", 0), ("day", 9), lands="z", house="g")


def book():
    return Book(CALENDAR, [C, B, D, A])


def flat(count):
    """So many deals without own clauses."""
    return [deal(chr(97 + at), ("day", at), ("day", at + 5)) for at in range(count)]


def clauses_of(count):
    """So many clauses that are kept by m on the day 0."""
    return [("m", "day", number) for number in range(count)]


class Looking(Case):
    def test_names_and_deals(self):
        self.same(book().names(), ["a", "b", "c", "d"])
        self.same(len(book()), 4)
        self.same(len(Book(CALENDAR, [])), 0)
        self.same([one.name for one in book()], ["a", "b", "c", "d"])
        self.assertEqual(list(book()), [A, B, C, D])
        self.assertEqual([(one.name, other.name) for one in book() for other in book()],
                         [(one, other) for one in "abcd" for other in "abcd"])

    def test_the_sequence_of_the_deals_has_no_effect(self):
        for deals in ([A, B, C, D], (D, C, B, A), [B, D, A, C]):
            self.assertEqual(Book(CALENDAR, deals), book())
            self.same(Book(deals=deals, calendar=CALENDAR).clauses(), book().clauses())

    def test_in(self):
        for name in "abcd":
            self.assertIs(name in book(), True)
        for value in ["e", "h", "f", "ab", A, ["a"], ("a",), b"a"]:
            self.assertIs(value in book(), False)
        for value in ODD_VALUES:
            self.assertIs(value in book(), value == "a")
            self.assertIs(value in Book(CALENDAR, []), False)

    def test_by_name(self):
        self.assertEqual([book()[name] for name in "abcd"], [A, B, C, D])
        for value in ODD_VALUES + ["e", "h", A, slice(0, 1)]:
            if value != "a":
                self.raised(UnknownDeal, lambda: book()[value], value=value)

    def test_clauses(self):
        own = [("day", "m", 20), ("n", "m", 0)]
        self.same(book().clauses(), CLAUSES + own)
        self.same([A.own_clause(), B.own_clause(), C.own_clause()], [None] + own)
        self.same(Book(CALENDAR, [A, D]).clauses(), CLAUSES)
        self.same(Book(Calendar(["m", "n"], [own[1], CLAUSES[1]]), [A, B, C, D]).clauses(),
                  [own[1], CLAUSES[1], own[0]])

    def test_one_own_clause_of_several_deals(self):
        deals = [deal("c", ("n", 1), ("m", 1)), deal("b", ("n", 3), ("m", 3)), deal("a", ("n", 0), ("m", 1))]
        self.same(Book(CALENDAR, deals).clauses(), CLAUSES + [("n", "m", 1), ("n", "m", 0)])

    def test_own_clauses_by_sorted_names(self):
        deals = [deal("z", ("n", 0), ("m", 1)), deal("b", ("n", 0), ("m", 3)), deal("aa", ("n", 0), ("m", 2))]
        self.same(Book(CALENDAR, deals).clauses(), CLAUSES + [("n", "m", 2), ("n", "m", 3), ("n", "m", 1)])

    def test_calendar_and_full(self):
        self.assertEqual(book().calendar, CALENDAR)
        self.same(book().calendar.clauses(), CLAUSES)
        self.assertIs(type(book().full()), Calendar)
        self.same(book().full().moments(), ["m", "n"])
        self.same(book().full().clauses(), book().clauses())
        self.assertTrue(keeps(book().full().dates(), book().clauses()))

    def test_houses(self):
        self.same(book().houses(), ["g", "h", "k"])
        self.same(Book(CALENDAR, []).houses(), [])
        houses = ["zz", "b", "y", "ab", "x", "c", "aa", "w"]
        many = [deal(chr(97 + at), ("day", 0), ("day", 0), house=house) for at, house in enumerate(houses)]
        self.same(Book(CALENDAR, many + [A.named("z")]).houses(), sorted(houses + ["h"]))

    def test_cells(self):
        self.same(book().cells(), [("f", "x", "w"), ("f", "y", "v"), ("f", "y", "w"), ("f", "z", "w"), ("g", "x", "w")])
        self.same(Book(CALENDAR, []).cells(), [])

    def test_at(self):
        self.same(book().at(("f", "y", "w")), ["a", "b"])
        self.same(book().at(cell=("f", "y", "v")), ["b"])
        self.same(book().at(("f", "y", "q")), [])
        self.same(Book(CALENDAR, []).at(("f", "y", "w")), [])
        for value in ODD_VALUES + [["f", "y", "w"], ("f", "y"), ("f", "y", "day"), ("f", "y", "w", "w"), ("f", "y", 1),
                                   ("f", "y", True), ("F", "y", "w"), ("f", "", "w"), "fyw"]:
            self.raised(InvalidCell, lambda: book().at(value), value=value)

    def test_touching(self):
        self.same(book().touching(), [("a", "b")])
        deals = [deal("d", ("m", 0), ("m", 1)), deal("c", ("m", 5), ("m", 6), alone=False),
                 deal("b", ("m", 0), ("m", 1), lands="z"), deal("a", ("n", 0), ("n", 0), alone=False, lands="xz")]
        self.same(Book(CALENDAR, deals).touching(), [("a", "b"), ("a", "d"), ("c", "d")])
        self.same(Book(CALENDAR, [A]).touching(), [])

    def test_repr(self):
        self.same(repr(Book(Calendar([]), [])), "Book(Calendar([], []), [])")
        self.same(repr(Book(Calendar(["m", "n"], CLAUSES), [D, A])),
                  "Book(Calendar(['m', 'n'], [('day', 'm', -10), ('m', 'day', 40)]), "
                  "[Deal('a', 'h', ['f'], ['x', 'y'], ['w'], ('m', 0), ('m', 29), alone=True, price=1), "
                  "Deal('d', 'g', ['f'], ['z'], ['w'], ('day', 0), ('day', 9), alone=True, price=1)])")

    def test_equality(self):
        self.assertTrue(book() == Book(Calendar(["m", "n"], CLAUSES[::-1]), (A, B, C, D)))
        self.assertFalse(book() != Book(CALENDAR, [A, B, C, D]))
        for other in (Book(CALENDAR, [A, B, C]), Book(CALENDAR, [A, B, C, D.priced(2)]),
                      Book(CALENDAR.without(0), [A, B, C, D]), Book(CALENDAR | Calendar(["o"]), [A, B, C, D]),
                      Book(CALENDAR.with_clause(("n", "m", 0)), [A, B, C, D]), Book(CALENDAR, [])):
            self.assertFalse(book() == other)
            self.assertTrue(book() != other)
        for value in ODD_VALUES + [CALENDAR, [A, B, C, D], repr(book())]:
            self.assertIs(book() == value, False)
            self.assertIs(book() != value, True)


class Copies(Case):
    def test_passed_and_returned_lists(self):
        deals = [C, A]
        one = Book(CALENDAR, deals)
        self.assertEqual(deals, [C, A])
        deals.append(B)
        for told in (one.names(), one.clauses(), one.houses(), one.cells(), one.at(("f", "x", "w")), one.touching()):
            told.clear()
        self.same([one.names(), one.clauses()], [["a", "c"], CLAUSES + [("n", "m", 0)]])
        self.same([one.houses(), one.cells(), one.at(("f", "x", "w")), len(one)],
                  [["h", "k"], [("f", "x", "w"), ("f", "y", "w"), ("g", "x", "w")], ["a"], 2])

    def test_the_elder_book_stays(self):
        one = book()
        one.without("a", "b")
        one.without("c").with_deal(C.named("e"))
        one.only_of("k")
        one.with_calendar(Calendar(["m", "n", "o"]))
        self.assertEqual(one, book())
        self.same([one.names(), one.clauses()], [book().names(), book().clauses()])


class Wrong(Case):
    def test_calendar(self):
        for value in ODD_VALUES + [CLAUSES, A, repr(CALENDAR)]:
            self.raised(InvalidCalendar, lambda: Book(value, [A]), value=value)
            self.raised(InvalidCalendar, lambda: Book(value, None), value=value)
        self.raised(InvalidCalendar, lambda: Book(book(), []), value=book())

    def test_no_list_of_deals(self):
        for value in odd_but(list, tuple) + [A, CALENDAR]:
            self.raised(InvalidDeals, lambda: Book(CALENDAR, value), position=None)
        self.raised(InvalidDeals, lambda: Book(CALENDAR, book()), position=None)

    def test_deals(self):
        for value in ODD_VALUES + [CALENDAR, "b", repr(B)]:
            self.raised(InvalidDeals, lambda: Book(CALENDAR, [A, value]), position=1)
            self.raised(InvalidDeals, lambda: Book(CALENDAR, (value,)), position=0)

    def test_names_that_stand_earlier(self):
        self.raised(InvalidDeals, lambda: Book(CALENDAR, [A, B, A]), position=2)
        self.raised(InvalidDeals, lambda: Book(CALENDAR, [A, B, C.named("b"), None]), position=2)

    def test_moments_that_the_calendar_does_not_have(self):
        for wrong in (deal("e", ("o", 0), ("m", 1)), deal("e", ("m", 0), ("o", 1)), deal("e", ("o", 0), ("o", 1)),
                      deal("e", ("day", 0), ("o", 1))):
            self.raised(InvalidDeals, lambda: Book(CALENDAR, [A, B, wrong, A]), position=2)
        self.raised(InvalidDeals, lambda: Book(Calendar([]), [D, A]), position=1)
        self.assertEqual(len(Book(Calendar([]), [D])), 1)

    def test_the_first_one_decides(self):
        self.raised(InvalidDeals, lambda: Book(CALENDAR, [A, 3, A]), position=1)
        self.raised(InvalidDeals, lambda: Book(CALENDAR, flat(11) + [None]), position=11)

    def test_no_dates(self):
        none = Calendar(["m", "n"], [("m", "day", -1), ("day", "m", 0)])
        self.raised(NoDates, lambda: Book(none, []))
        self.raised(NoDates, lambda: Book(none, [A]))
        late = deal("e", ("day", 100), ("m", 50))
        self.raised(NoDates, lambda: Book(CALENDAR, [A, late]))
        self.assertEqual(len(Book(CALENDAR, [A, deal("e", ("day", 100), ("m", 60))])), 2)
        around = [deal("e", ("m", 0), ("n", -1)), deal("f", ("n", 0), ("m", 0))]
        self.raised(NoDates, lambda: Book(CALENDAR, around))
        self.raised(InvalidDeals, lambda: Book(none, [A, None]), position=1)

    def test_too_many_deals(self):
        self.assertEqual(len(Book(CALENDAR, flat(10))), 10)
        self.raised(TooMany, lambda: Book(CALENDAR, flat(11)), what="deals", limit=10)
        self.raised(NoDates, lambda: Book(CALENDAR.with_clause(("m", "day", 0)), flat(11)))

    def test_too_many_clauses(self):
        calendar = Calendar(["m", "n"], clauses_of(39))
        one, other = deal("a", ("n", 0), ("m", 1)), deal("b", ("n", 0), ("m", 2))
        self.assertEqual(len(Book(calendar, [one]).clauses()), 40)
        self.assertEqual(len(Book(calendar, [one, deal("b", ("n", 3), ("m", 4))]).full()), 40)
        self.raised(TooMany, lambda: Book(calendar, [one, other]), what="clauses", limit=40)
        full = Calendar(["m", "n"], clauses_of(40))
        self.assertEqual(len(Book(full, flat(10) + [])), 10)
        self.raised(TooMany, lambda: Book(full, [one]), what="clauses", limit=40)
        self.assertEqual(len(Book(full, [deal("a", ("m", 1), ("day", 1))])), 1)

    def test_deals_ahead_of_clauses(self):
        full = Calendar(["m", "n"], clauses_of(40))
        self.raised(TooMany, lambda: Book(full, flat(10) + [deal("z", ("n", 0), ("m", 1))]), what="deals", limit=10)

    def test_no_dates_ahead_of_too_many_clauses(self):
        full = Calendar(["m", "n"], clauses_of(40))
        late = deal("z", ("day", 1), ("m", 0))
        self.raised(NoDates, lambda: Book(full, [late]))


class Changing(Case):
    def test_with_deal(self):
        small = Book(CALENDAR, [A, D])
        self.assertEqual(small.with_deal(C), Book(CALENDAR, [A, C, D]))
        self.assertEqual(small.with_deal(deal=C).names(), ["a", "c", "d"])
        self.same(small.with_deal(C).clauses(), CLAUSES + [("n", "m", 0)])
        self.assertEqual(len(small), 2)

    def test_with_deal_wrong(self):
        for value in ODD_VALUES + [CALENDAR, [C], "c", deal("e", ("o", 0), ("m", 1)), deal("a", ("m", 0), ("o", 1))]:
            self.raised(InvalidDeal, lambda: book().with_deal(value), value=value)
        self.raised(NameTaken, lambda: book().with_deal(A), value="a")
        self.raised(NameTaken, lambda: book().with_deal(deal("c", ("day", 100), ("m", 50))), value="c")
        self.raised(NoDates, lambda: book().with_deal(deal("e", ("day", 100), ("m", 50))))
        self.raised(TooMany, lambda: Book(CALENDAR, flat(10)).with_deal(deal("z", ("m", 0), ("m", 1))),
                    what="deals", limit=10)
        self.raised(NameTaken, lambda: Book(CALENDAR, flat(10)).with_deal(A), value="a")
        full = Book(Calendar(["m", "n"], clauses_of(40)), [])
        self.raised(TooMany, lambda: full.with_deal(C), what="clauses", limit=40)
        self.raised(NoDates, lambda: full.with_deal(deal("z", ("day", 1), ("m", 0))))

    def test_without(self):
        self.assertEqual(book().without("b"), Book(CALENDAR, [A, C, D]))
        self.assertEqual(book().without("b", "d", "b"), Book(CALENDAR, [A, C]))
        self.assertEqual(book().without(), book())
        self.assertEqual(book().without("a", "b", "c", "d"), Book(CALENDAR, []))
        self.same(book().without("b").clauses(), CLAUSES + [("n", "m", 0)])

    def test_without_wrong(self):
        for value in ODD_VALUES + ["e", A]:
            if value != "a":
                self.raised(UnknownDeal, lambda: book().without(value), value=value)
                self.raised(UnknownDeal, lambda: book().without("a", "a", value, None), value=value)
        self.raised(UnknownDeal, lambda: book().without("b", "e", "f"), value="e")

    def test_only_of(self):
        self.assertEqual(book().only_of("k"), Book(CALENDAR, [B, C]))
        self.assertEqual(book().only_of(house="g"), Book(CALENDAR, [D]))
        self.same(book().only_of("h").clauses(), CLAUSES)
        for value in ODD_VALUES + ["a", "x", "kk", A]:
            self.raised(UnknownHouse, lambda: book().only_of(value), value=value)
        self.raised(UnknownHouse, lambda: Book(CALENDAR, []).only_of("h"), value="h")

    def test_with_calendar(self):
        other = Calendar(["m", "n", "o"], [("o", "day", 3)])
        self.assertEqual(book().with_calendar(other), Book(other, [A, B, C, D]))
        self.assertEqual(book().with_calendar(calendar=other).calendar, other)
        self.same(book().with_calendar(other).clauses(), [("o", "day", 3), ("day", "m", 20), ("n", "m", 0)])

    def test_with_calendar_wrong(self):
        for value in ODD_VALUES + [A, CLAUSES]:
            self.raised(InvalidCalendar, lambda: book().with_calendar(value), value=value)
        self.raised(InvalidDeals, lambda: Book(CALENDAR, [A]).with_calendar(Calendar(["n"])), position=0)
        self.raised(InvalidDeals, lambda: Book(CALENDAR, [A, C]).with_calendar(Calendar(["m"])), position=1)
        self.raised(NoDates, lambda: book().with_calendar(Calendar(["m", "n"], [("m", "day", -21)])))
        self.assertEqual(len(book().with_calendar(Calendar(["m", "n"], [("m", "day", -20)]))), 4)
        full = Calendar(["m", "n"], clauses_of(40))
        self.raised(TooMany, lambda: Book(CALENDAR, [C]).with_calendar(full), what="clauses", limit=40)
