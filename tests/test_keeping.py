"""[51] and [52]: the dearest chains and crowds of a cell, charges and covers, against all lots of its deals."""

from letdays.books import Book
from letdays.calendars import Calendar
from letdays.errors import InvalidCell
from letdays.keeping import (Priced, charge, chain_price, cover, crowd_price, dearest_chain, dearest_crowd, is_charge,
                             is_cover)
from tests.support import Anything, Case, ODD_VALUES, ahead_by_hand, chains_by_hand, crowds_by_hand, deal, numbers
from tests.support import open_books, small_books, wrong_cells

CELL = ("f", "x", "w")
NONE = ("f", "z", "w")
BIG = 10 ** 29


def price(book, names):
    return sum(book[name].price for name in names)


def is_enough(book, cell, rows):
    """Whether the numbers are COUNTS and come to the prices of all deals with the cell."""
    if not all(type(number) is int and number >= 0 for _, number in rows):
        return False
    return all(sum(number for names, number in rows if name in names) >= book[name].price for name in book.at(cell))


def line(first=3, second=4, third=5):
    """a and c can be on together, both surely ahead of b; d has another cell."""
    calendar = Calendar(["m", "n"], [("day", "m", -10), ("m", "n", -30)])
    return Book(calendar, [deal("a", ("m", 0), ("m", 24), price=first), deal("b", ("n", 0), ("n", 9), price=second),
                           deal("c", ("day", 0), ("n", -25), "xy", price=third),
                           deal("d", ("m", 0), ("m", 9), "y", price=100)])


def drawn_books():
    source = numbers(121)
    found = [book for book, _ in small_books(122, 25, names="abcde")] + open_books(123, 50, names="abcdef")
    great = []
    for book in open_books(124, 10, names="abcde"):
        great.append(Book(book.calendar, [one.priced(source.randint(0, BIG)) for one in book]))
    return found + great


class AgainstAllLots(Case):
    def test_prices_and_papers(self):
        told = [0, 0]
        for book in drawn_books():
            ahead = ahead_by_hand(book)
            for cell in (CELL, ("f", "y", "w"), NONE):
                names = book.at(cell)
                told[len(names) > 3] += 1
                self.check_chains(book, cell, chains_by_hand(names, ahead), crowds_by_hand(names, ahead))
                self.check_crowds(book, cell, chains_by_hand(names, ahead), crowds_by_hand(names, ahead))
        self.assertGreater(min(told), 20)

    def check_chains(self, book, cell, chains, crowds):
        most = max((price(book, chain) for chain in chains), default=0)
        self.same(chain_price(book, cell), most)
        chain = dearest_chain(book, cell)
        self.assertTrue(chain in chains or chain == chains == [])
        self.same([type(chain), price(book, chain)], [list, most])
        self.check_numbered(book, cell, charge(book, cell), crowds, most)
        self.assertIs(is_charge(book, cell, charge(book, cell)), True)

    def check_crowds(self, book, cell, chains, crowds):
        most = max((price(book, crowd) for crowd in crowds), default=0)
        self.same(crowd_price(book, cell), most)
        crowd = dearest_crowd(book, cell)
        self.assertTrue(crowd in crowds or crowd == crowds == [])
        self.same([type(crowd), price(book, crowd)], [list, most])
        self.check_numbered(book, cell, cover(book, cell), chains, most)
        self.assertIs(is_cover(book, cell, cover(book, cell)), True)

    def check_numbered(self, book, cell, rows, lots, most):
        self.assertIs(type(rows), list)
        self.assertTrue(all(type(row) is tuple and len(row) == 2 and type(row[0]) is list for row in rows))
        self.assertTrue(all(names in lots and number > 0 for names, number in rows))
        self.assertTrue(is_enough(book, cell, rows))
        self.same(sum(number for _, number in rows), most)

    def test_judges(self):
        source = numbers(125)
        told = {False: 0, True: 0}
        for book in drawn_books():
            ahead = ahead_by_hand(book)
            names = book.at(CELL)
            for judge, lots in ((is_charge, crowds_by_hand(names, ahead)), (is_cover, chains_by_hand(names, ahead))):
                for _ in range(20):
                    many = source.randint(0, 6) if lots else 0
                    rows = [(source.choice(lots), source.choice([0, 1, 3, 8])) for _ in range(many)]
                    expected = is_enough(book, CELL, rows)
                    told[expected] += 1
                    self.assertIs(judge(book, CELL, rows), expected)
                    self.assertIs(judge(book, CELL, tuple((tuple(lot), number) for lot, number in rows)), expected)
        self.assertGreater(min(told.values()), 100)


class PricesOfALine(Case):
    def test_ordinary(self):
        book = line()
        self.same([chain_price(book, CELL), crowd_price(book, CELL)], [9, 8])
        self.same([dearest_chain(book, CELL), dearest_crowd(book, CELL)], [["c", "b"], ["a", "c"]])
        other = ("f", "y", "w")
        self.same([chain_price(book, other), crowd_price(book, other)], [100, 105])
        self.same([dearest_chain(book, other), dearest_crowd(book, other)], [["d"], ["c", "d"]])

    def test_prices_of_zero(self):
        book = line(0, 0, 0)
        self.same([chain_price(book, CELL), crowd_price(book, CELL), charge(book, CELL), cover(book, CELL)],
                  [0, 0, [], []])
        self.assertIn(dearest_chain(book, CELL), [["a"], ["b"], ["c"], ["a", "b"], ["c", "b"]])
        self.assertIn(dearest_crowd(book, CELL), [["a"], ["b"], ["c"], ["a", "c"]])
        self.same([is_charge(book, CELL, []), is_cover(book, CELL, ())], [True, True])
        self.same([is_charge(book, CELL, [(["a", "c"], 0)]), is_cover(book, CELL, [(["a", "b"], 0)])], [True, True])

    def test_no_deal_has_the_cell(self):
        book = line()
        for call, expected in ((chain_price, 0), (crowd_price, 0), (dearest_chain, []), (dearest_crowd, []),
                               (charge, []), (cover, [])):
            self.same(call(book, NONE), expected)
        for judge in (is_charge, is_cover):
            self.same([judge(book, NONE, []), judge(book, NONE, ())], [True, True])
            for value in ([(["a"], 1)], [(["a"], 0)], [([], 0)], [()], None):
                self.assertIs(judge(book, NONE, value), False)

    def test_ten_deals(self):
        every = list("abcdefghij")
        together = Book(Calendar([], []), [deal(name, ("day", 0), ("day", 0), price=at) for at,
                                           name in enumerate(every)])
        self.same([crowd_price(together, CELL), chain_price(together, CELL)], [45, 9])
        self.same([sorted(cover(together, CELL)), dearest_chain(together, CELL)],
                  [[([name], at) for at, name in enumerate(every) if at], ["j"]])
        row = Book(Calendar([], []), [deal(name, ("day", at), ("day", at), price=at) for at, name in enumerate(every)])
        self.same([crowd_price(row, CELL), chain_price(row, CELL)], [9, 45])
        self.same([sum(number for _, number in cover(row, CELL)), sum(number for _, number in charge(row, CELL))],
                  [9, 45])

    def test_returned_values_are_new(self):
        book = line()
        for call in (charge, cover, dearest_chain, dearest_crowd):
            first, again = call(book, CELL), call(book, CELL)
            self.same(first, again)
            if isinstance(first[0], tuple):
                first[0][0].append("x")
            first.append("x")
            self.same(call(book, CELL), again)

    def test_by_name(self):
        book = line()
        self.same([chain_price(cell=CELL, book=book), crowd_price(cell=CELL, book=book)], [9, 8])
        self.same([dearest_chain(cell=CELL, book=book), dearest_crowd(cell=CELL, book=book)], [["c", "b"], ["a", "c"]])
        self.same(is_charge(value=charge(cell=CELL, book=book), cell=CELL, book=book), True)
        self.same(is_cover(value=cover(cell=CELL, book=book), cell=CELL, book=book), True)


class Judged(Case):
    CHARGE = [(["a", "c"], 5), (["b"], 4)]
    COVER = [(["a", "b"], 3), (["c", "b"], 5)]

    def test_charges(self):
        for value in (self.CHARGE, tuple(self.CHARGE), [(("a", "c"), 5), (("b",), 4)],
                      [(["a"], 3), (["c"], 5), (["b"], 9)],
                      self.CHARGE + [(["a"], 0)], [(["a", "c"], 2), (["a", "c"], 3), (["b"], 4)]):
            self.assertIs(is_charge(line(), CELL, value), True, value)
        for value in ([(["a", "c"], 4), (["b"], 4)], [(["a", "c"], 5), (["b"], 3)], [(["a", "c"], 5)], [],
                      [(["c", "a"], 5), (["b"], 4)], [(["a", "b"], 5), (["c"], 5)], self.CHARGE + [([], 1)],
                      self.CHARGE + [(["a", "b"], 0)], self.CHARGE + [(["d"], 1)], self.CHARGE + [(["z"], 1)],
                      self.CHARGE + [(["a"], -1)], self.CHARGE + [(["a"], True)], self.CHARGE + [(["a"], None)],
                      self.CHARGE + [(["a"],)], self.CHARGE + [(["a"], 1, 1)], self.CHARGE + [["a"]],
                      [[["a", "c"], 5], [["b"], 4]], {"a": 5}, self.COVER, [("ac", 5), ("b", 4)],
                      [(5, ["a", "c"]), (4, ["b"])]):
            self.assertIs(is_charge(line(), CELL, value), False, value)

    def test_covers(self):
        for value in (self.COVER, tuple(self.COVER), [(("a", "b"), 3), (("c", "b"), 5)],
                      [(["a"], 3), (["c"], 5), (["b"], 4)],
                      self.COVER + [(["a"], 0)], [(["a", "b"], 1), (["a", "b"], 2), (["c", "b"], 5)]):
            self.assertIs(is_cover(line(), CELL, value), True, value)
        for value in ([(["a", "b"], 2), (["c", "b"], 5)], [(["a", "b"], 3), (["c", "b"], 4)], [(["a"], 3), (["c"], 5)],
                      [],
                      [(["b", "a"], 3), (["c", "b"], 5)], [(["a", "c"], 5), (["b"], 4)], self.COVER + [([], 1)],
                      self.COVER + [(["a", "c"], 0)], self.COVER + [(["d"], 1)], self.COVER + [(["z"], 1)],
                      self.COVER + [(["a"], -1)], self.COVER + [(["a"], False)], self.COVER + [(["a"], None)],
                      self.COVER + [(["a"],)], self.COVER + [(["a"], 1, 1)], self.COVER + [["a"]],
                      [[["a", "b"], 3], [["c", "b"], 5]], {"a": 5}, [("ab", 3), ("cb", 5)]):
            self.assertIs(is_cover(line(), CELL, value), False, value)

    def test_values_of_any_kind(self):
        for judge, right in ((is_charge, self.CHARGE), (is_cover, self.COVER)):
            for value in ODD_VALUES:
                self.assertIs(judge(line(), CELL, value), False)
                self.assertIs(judge(line(), CELL, right + [value]), False)
                self.assertIs(judge(line(), CELL, right + [(value, 1)]), value in (["a"], ("a",)))
                self.assertIs(judge(line(), CELL, right + [([value], 1)]), value == "a")
                self.assertIs(judge(line(), CELL, right + [(["a"], value)]), type(value) is int and value >= 0)

    def test_true_is_not_one(self):
        book = line(1, 0, 0)
        for judge in (is_charge, is_cover):
            self.same([judge(book, CELL, [(["a"], 1)]), judge(book, CELL, [(["a"], True)])], [True, False])

    def test_great_numbers(self):
        book = line(BIG, BIG + 1, 2 * BIG)
        self.same([chain_price(book, CELL), crowd_price(book, CELL)], [3 * BIG + 1, 3 * BIG])
        self.same(sum(number for _, number in charge(book, CELL)), 3 * BIG + 1)
        self.same(sum(number for _, number in cover(book, CELL)), 3 * BIG)


class PricedCells(Case):
    def test_ordinary(self):
        book = line()
        priced = Priced(book, CELL)
        self.assertIs(priced.book, book)
        self.same([priced.cell, priced.prices(), len(priced), list(priced)], [CELL, (9, 8), 3, ["a", "b", "c"]])
        papers = priced.papers()
        self.same(papers, (dearest_chain(book, CELL), charge(book, CELL), dearest_crowd(book, CELL), cover(book, CELL)))
        self.same([name for name in priced], ["a", "b", "c"])
        self.same([name in priced for name in "abcdz"], [True, True, True, False, False])

    def test_another_cell(self):
        book = line()
        other = ("f", "y", "w")
        for change in (lambda priced: setattr(priced, "cell", other), lambda priced: priced.use(other),
                       lambda priced: priced.use(cell=other)):
            priced = Priced(cell=CELL, book=book)
            change(priced)
            self.same([priced.cell, list(priced), len(priced)], [other, ["c", "d"], 2])
            self.same(priced.prices(), (chain_price(book, other), crowd_price(book, other)))
            self.same(priced.papers(), Priced(book, other).papers())
            self.same([name in priced for name in "abcd"], [False, False, True, True])
            self.assertIs(priced == Priced(book, other), True)
            self.assertIs(priced == Priced(book, CELL), False)
            priced.cell = NONE
            self.same([priced.cell, list(priced), len(priced), priced.prices(), priced.papers()],
                      [NONE, [], 0, (0, 0), ([], [], [], [])])
            priced.cell = CELL
            self.same([priced.cell, list(priced), priced.prices()], [CELL, ["a", "b", "c"], (9, 8)])

    def test_use_returns_none(self):
        self.assertIsNone(Priced(line(), CELL).use(NONE))

    def test_wrong_cells(self):
        for value in wrong_cells():
            priced = Priced(line(), CELL)
            self.raised(InvalidCell, lambda: Priced(line(), value), value=value)
            self.raised(InvalidCell, lambda: priced.use(value), value=value)
            self.raised(InvalidCell, lambda: setattr(priced, "cell", value), value=value)
            self.same([priced.cell, list(priced), priced.prices()], [CELL, ["a", "b", "c"], (9, 8)])
            self.assertIs(priced == Priced(line(), CELL), True)

    def test_in_for_any_value(self):
        priced = Priced(line(), CELL)
        for value in ODD_VALUES + [["a"], ("a", "b"), line()["a"], CELL]:
            if value != "a":
                self.assertIs(value in priced, False)
        self.assertIs(Anything() in priced, False)

    def test_equal(self):
        self.assertIs(Priced(line(), CELL) == Priced(line(), CELL), True)
        self.assertIs(Priced(line(), CELL) != Priced(line(), CELL), False)
        self.assertIs(Priced(line(), CELL) == Priced(line(), NONE), False)
        self.assertIs(Priced(line(), CELL) == Priced(line(0), CELL), False)
        self.assertIs(Priced(line(), CELL) == Priced(line().without("d"), CELL), False)
        for value in ODD_VALUES + [line(), CELL]:
            self.assertIs(Priced(line(), CELL) == value, False)
            self.assertIs(value == Priced(line(), CELL), False)

    def test_two_do_not_share_a_cell(self):
        book = line()
        one, other = Priced(book, CELL), Priced(book, CELL)
        one.cell = NONE
        self.same([other.cell, list(other)], [CELL, ["a", "b", "c"]])

    def test_returned_values_are_new(self):
        priced = Priced(line(), CELL)
        papers = priced.papers()
        for part in papers:
            part.clear()
        self.same(priced.papers(), Priced(line(), CELL).papers())
        with self.assertRaises(AttributeError):
            priced.book = line()


class Wrong(Case):
    CALLS = (chain_price, crowd_price, dearest_chain, dearest_crowd, charge, cover,
             lambda book, cell: is_charge(book, cell, None), lambda book, cell: is_cover(book, cell, None))

    def test_cells(self):
        for call in self.CALLS:
            for value in wrong_cells():
                self.raised(InvalidCell, lambda: call(line(), value), value=value)
