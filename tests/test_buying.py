"""[53], [54] and [55]: backs, loads, sides and odd rings, against all lots of names, gone through one by one."""

import itertools

from letdays.books import Book
from letdays.calendars import Calendar
from letdays.buying import (is_back, is_loads, is_odd_ring, least_back, least_price, loads, odd_ring, premium, sides,
                            spare_backs, to_buy)
from letdays.errors import InvalidDeal, NameTaken, NoDates, TooMany, UnknownDeal
from letdays.together import is_safe, open_pairs
from tests.support import Case, ODD_VALUES, ahead_by_hand, deal, lots_of, numbers, open_books, open_by_hand
from tests.support import small_books

BIG = 10 ** 29


def price(book, names):
    return sum(book[name].price for name in names)


def backs_by_hand(book, pairs):
    """All backs, from the least one on."""
    found = [lot for lot in lots_of(book.names()) if all(one in lot or other in lot for one, other in pairs)]
    return sorted(found, key=lambda lot: (price(book, lot), len(lot), lot))


def spare_by_hand(book, pairs):
    backs = backs_by_hand(book, pairs)
    return [back for back in backs if not any([other for other in back if other != name] in backs for name in back)]


def sides_by_hand(book, pairs):
    """All two sides of the names such that no pair has both on one side."""
    found = []
    for first in lots_of(book.names()):
        second = [name for name in book.names() if name not in first]
        if not any(one in side and other in side for side in (first, second) for one, other in pairs):
            found.append((first, second))
    return found


def hanging(book, pairs, name):
    """All names that hang together with this one by pairs."""
    found = {name}
    for _ in book.names():
        found |= {name for pair in pairs if set(pair) & found for name in pair}
    return sorted(found)


def odd_rings_by_hand(book, pairs):
    found = []
    for many in range(3, len(book) + 1, 2):
        for row in itertools.permutations(book.names(), many):
            if all(tuple(sorted(pair)) in pairs for pair in zip(row, row[1:] + row[:1])):
                found.append(list(row))
    return found


def meeting_book(pairs, prices):
    """A book whose open pairs are just these: all deals are on together, and each pair has a land of its own."""
    deals = []
    for name in sorted(prices):
        lands = [chr(97 + at) * 2 for at, pair in enumerate(pairs) if name in pair]
        deals.append(deal(name, ("day", 0), ("day", 9), lands or ["z" + name], True, prices[name]))
    return Book(Calendar([], []), deals)


def crossing(count, prices):
    """A ring of so many deals: each has an open pair with each of its two neighbours."""
    names = "abcdefghij"[:count]
    pairs = [tuple(sorted([names[at - 1], names[at]])) for at in range(count)]
    return meeting_book(pairs, dict(zip(names, prices)))


def line():
    """The book of the document's example."""
    calendar = Calendar(["x"], [("day", "x", 0), ("x", "day", 30)])
    return Book(calendar, [deal("a", ("x", 0), ("x", 9), price=3), deal("b", ("x", 10), ("x", 19), price=4),
                           deal("c", ("day", 12), ("day", 20), price=5)])


def safe():
    return Book(Calendar([], []), [deal("a", ("day", 0), ("day", 1), price=2), deal("b", ("day", 2), ("day", 3))])


def drawn_books():
    """Books of small and great prices, with and without sides."""
    source = numbers(131)
    found = [book for book, _ in small_books(132, 30, names="abcde")] + open_books(133, 50, names="abcdef")
    for book in open_books(134, 20, names="abcdef"):
        found.append(Book(book.calendar, [one.priced(source.randint(0, BIG)) for one in book]))
    for book in open_books(135, 20, names="abcdef"):
        found.append(Book(book.calendar, [one.priced(1) for one in book]))
    # The deals of each of two houses are safe, so these books have sides.
    for _ in range(30):
        deals = []
        for at, name in enumerate("abcdef"):
            first = 10 * (at // 2) + source.randint(0, 6)
            deals.append(deal(name, ("m" if at % 2 else "day", first), ("m" if at % 2 else "day", first + 3),
                              price=source.randint(0, 9)))
        found.append(Book(Calendar(["m"], [("m", "day", source.randint(0, 9)), ("day", "m", 3)]), deals))
    return found


def asked_pairs(book):
    return open_by_hand(book, ahead_by_hand(book))


class AgainstAllLots(Case):
    def test_backs(self):
        told = [0, 0]
        for book in drawn_books():
            backs = backs_by_hand(book, asked_pairs(book))
            told[len(backs[0]) > 2] += 1
            self.same([least_back(book), least_price(book)], [backs[0], price(book, backs[0])])
            self.same(list(spare_backs(book)), spare_by_hand(book, asked_pairs(book)))
            for name in book.names():
                without = min(price(book, back) for back in backs if name not in back)
                beside = min(price(book, back) for back in backs if name in back)
                self.same(premium(book, name), without - beside)
        self.assertGreater(min(told), 20)

    def test_is_back(self):
        told = [0, 0]
        for book in drawn_books()[::4]:
            backs = backs_by_hand(book, asked_pairs(book))
            for lot in lots_of(book.names()):
                told[lot in backs] += 1
                for value in (lot, tuple(lot)):
                    self.assertIs(is_back(book, value), lot in backs)
                for value in (lot + lot[:1], lot[::-1] if len(lot) > 1 else None, lot + ["zz"], lot + [None]):
                    self.assertIs(is_back(book, value), value == [] and lot in backs)
        self.assertGreater(min(told), 50)

    def test_without_a_back_the_book_is_safe(self):
        for book in drawn_books()[::4]:
            for back in spare_backs(book):
                own = [book[name].own_clause() for name in back if book[name].own_clause() is not None]
                calendar = book.calendar
                for clause in own:
                    calendar = calendar.with_clause(clause)
                self.assertTrue(is_safe(book.without(*back).with_calendar(calendar)))

    def test_sides_or_an_odd_ring(self):
        told = [0, 0]
        for book in drawn_books():
            pairs = asked_pairs(book)
            every, ring, found = sides_by_hand(book, pairs), odd_ring(book), sides(book)
            told[every == []] += 1
            if not every:
                self.assertIsNone(found)
                self.assertIs(type(ring), list)
                self.assertIn(ring, odd_rings_by_hand(book, pairs))
                self.assertIs(is_odd_ring(book, ring), True)
                self.assertIsNone(loads(book))
                continue
            self.assertIsNone(ring)
            self.same([type(found), [type(side) for side in found]], [tuple, [list, list]])
            self.assertIn(found, every)
            self.assertTrue(all(hanging(book, pairs, name)[0] in found[0] for name in book.names()))
            self.check_loads(book, pairs)
        self.assertGreater(min(told), 20)

    def check_loads(self, book, pairs):
        found = loads(book)
        self.same([type(found), list(found)], [dict, pairs])
        self.assertTrue(all(type(number) is int and number >= 0 for number in found.values()))
        for name in book.names():
            self.assertLessEqual(sum(found[pair] for pair in pairs if name in pair), book[name].price)
        self.same(sum(found.values()), least_price(book))
        self.assertIs(is_loads(book, found), True)

    def test_is_odd_ring(self):
        told = [0, 0]
        for book in drawn_books()[::5]:
            rings = odd_rings_by_hand(book, asked_pairs(book))
            for many in range(0, 6):
                for row in itertools.permutations(book.names()[:5], many):
                    told[list(row) in rings] += 1
                    self.assertIs(is_odd_ring(book, row), list(row) in rings)
                    self.assertIs(is_odd_ring(book, list(row)), list(row) in rings)
        self.assertGreater(min(told), 50)

    def test_to_buy(self):
        told = [0, 0]
        for book in drawn_books():
            *rest, last = book.names()
            bought = to_buy(book.without(last), book[last])
            expected = [name for name in rest if (name, last) in asked_pairs(book)]
            told[bought == []] += 1
            self.same(bought, expected)
        self.assertGreater(min(told), 10)


class RingsOfPairs(Case):
    def test_rings_of_three_to_nine(self):
        for count in range(3, 10):
            book = crossing(count, [4, 1, 3, 2, 5, 0, 7, 2, 6])
            self.same(len(open_pairs(book)), count)
            pairs = asked_pairs(book)
            names = book.names()
            if count % 2 == 0:
                self.same([sides(book), odd_ring(book)], [(names[::2], names[1::2]), None])
                self.same(sum(loads(book).values()), price(book, backs_by_hand(book, pairs)[0]))
                self.assertIs(is_odd_ring(book, names), False)
            else:
                self.same([sides(book), loads(book), sorted(odd_ring(book))], [None, None, names])
                self.assertIn(odd_ring(book), odd_rings_by_hand(book, pairs) if count < 9 else [odd_ring(book)])
                self.assertIs(is_odd_ring(book, odd_ring(book)), True)
                for turn in range(count):
                    self.assertIs(is_odd_ring(book, names[turn:] + names[:turn]), True)
                    self.assertIs(is_odd_ring(book, tuple(names[turn:] + names[:turn])[::-1]), True)

    def test_spoilt_odd_rings(self):
        book = crossing(5, [1, 1, 1, 1, 1])
        self.assertIs(is_odd_ring(book, list("abcde")), True)
        for value in (list("abced"), list("abcd"), list("abc"), list("abcdeab"), list("abcdz"), list("ababa"), [],
                      ["a"],
                      ["a", "b"], "abcde", set("abcde"), dict.fromkeys("abcde"), None, [["a", "b", "c", "d", "e"]],
                      ["a", "b", "c", "d", None], ["a", "b", "c", "d", ["e"]], list("ABCDE"), [True] * 3, ["a"] * 3):
            self.assertIs(is_odd_ring(book, value), False, value)
        for value in ODD_VALUES:
            self.assertIs(is_odd_ring(book, value), False)
            self.assertIs(is_odd_ring(book, ["b", "c", "d", "e", value]), value == "a")
            self.assertIs(is_odd_ring(book, [value] * 3), False)

    def test_an_odd_ring_behind_a_stem(self):
        pairs = [("a", "b"), ("b", "c"), ("c", "d"), ("d", "e"), ("c", "e")]
        book = meeting_book(pairs, dict.fromkeys("abcdef", 2))
        self.same(sorted(odd_ring(book)), ["c", "d", "e"])
        self.assertIs(is_odd_ring(book, odd_ring(book)), True)
        self.assertIs(is_odd_ring(book, list("abcde")), False)

    def test_parts_that_do_not_hang_together(self):
        book = meeting_book([("b", "d"), ("c", "f"), ("e", "f")], dict.fromkeys("abcdefg", 1))
        self.same(sides(book), (["a", "b", "c", "e", "g"], ["d", "f"]))

    def test_loads_by_a_way_around(self):
        # Each of the two cheap ones must give way for the other once.
        book = meeting_book([("a", "c"), ("a", "d"), ("b", "c")], {"a": 5, "b": 5, "c": 5, "d": 5})
        self.same([least_back(book), least_price(book), sum(loads(book).values())], [["a", "b"], 10, 10])
        found = loads(book)
        self.same([found[("a", "d")], found[("b", "c")], found[("a", "c")]], [5, 5, 0])


class Told(Case):
    def test_least_back_by_price_then_number_then_list(self):
        pairs = [("a", "b"), ("c", "d")]
        self.same(least_back(meeting_book(pairs, {"a": 1, "b": 2, "c": 4, "d": 3})), ["a", "d"])
        self.same(least_back(meeting_book(pairs, {"a": 2, "b": 2, "c": 3, "d": 3})), ["a", "c"])
        # Two for 1 are as cheap as one for 2.
        self.same(least_back(meeting_book([("a", "c"), ("b", "c")], {"a": 1, "b": 1, "c": 2})), ["c"])
        zero = meeting_book([("a", "b")], {"a": 0, "b": 0, "c": 0})
        self.same([least_back(zero), list(spare_backs(zero)), least_price(zero)], [["a"], [["a"], ["b"]], 0])
        self.same([premium(zero, "a"), premium(zero, "c")], [0, 0])

    def test_spare_backs_in_sequence(self):
        star = meeting_book([("a", "d"), ("b", "d"), ("c", "d")], {"a": 1, "b": 1, "c": 1, "d": 3})
        self.same(list(spare_backs(star)), [["d"], ["a", "b", "c"]])
        dear = meeting_book([("a", "d"), ("b", "d"), ("c", "d")], {"a": 1, "b": 1, "c": 1, "d": 4})
        self.same(list(spare_backs(dear)), [["a", "b", "c"], ["d"]])
        self.same([premium(dear, "d"), premium(dear, "a"), premium(star, "d")], [-1, 1, 0])

    def test_spare_backs_is_a_generator(self):
        found = spare_backs(line())
        self.assertIs(iter(found), found)
        first = next(found)
        self.same(first, ["c"])
        first.append("x")
        self.same([next(found), next(found, None)], [["a", "b"], None])
        self.same(list(spare_backs(book=line())), [["c"], ["a", "b"]])

    def test_safe_book(self):
        book = safe()
        self.same([least_back(book), least_price(book), list(spare_backs(book)), premium(book, "a")], [[], 0, [[]], -2])
        self.same([loads(book), sides(book), odd_ring(book)], [{}, (["a", "b"], []), None])
        self.same([is_loads(book, {}), is_back(book, []), is_back(book, ()), is_back(book, ["b"])], [True] * 4)

    def test_empty_book(self):
        book = Book(Calendar([], []), [])
        self.same([least_back(book), least_price(book), list(spare_backs(book))], [[], 0, [[]]])
        self.same([loads(book), sides(book), odd_ring(book)], [{}, ([], []), None])

    def test_ten_deals(self):
        every = list("abcdefghij")
        book = Book(Calendar([], []), [deal(name, ("day", 0), ("day", 0), price=at) for at, name in enumerate(every)])
        self.same([least_back(book), least_price(book)], [every[:-1], 36])
        self.same(list(spare_backs(book))[-1], every[1:])
        self.same([len(list(spare_backs(book))), premium(book, "j"), premium(book, "a")], [10, -1, 9])
        self.assertIs(is_odd_ring(book, odd_ring(book)), True)

    def test_backs_of_any_kind(self):
        book = line()
        self.same(asked_pairs(book), [("a", "c"), ("b", "c")])
        for value in (["c"], ("c",), ["a", "b"], ("a", "b"), ["a", "b", "c"], ["a", "c"]):
            self.assertIs(is_back(book, value), True)
        for value in ([], (), ["a"], ["b"], ["b", "a"], ["c", "a"], ["c", "c"], ["a", "b", "b"], ["c", "z"], "c", {"c"},
                      {"c": 1}, None, [["c"]], ["c", None], ["c", True], [("a", "b")], "ab"):
            self.assertIs(is_back(book, value), False, value)
        for value in ODD_VALUES:
            self.assertIs(is_back(book, value), False)
            self.assertIs(is_back(book, ["c", value]), False)
            self.assertIs(is_back(book, [value, "c"]), value == "a")

    def test_loads_of_any_kind(self):
        book = line()
        ac, bc = ("a", "c"), ("b", "c")
        for value in ({ac: 3, bc: 2}, {bc: 4, ac: 1}, {ac: 0, bc: 0}):
            self.assertIs(is_loads(book, value), True)
        for value in ({ac: 4, bc: 0}, {ac: 3, bc: 3}, {ac: 0, bc: 5}, {ac: 1}, {ac: 1, bc: 1, ("a", "b"): 0}, {},
                      {ac: 1, ("c", "b"): 1}, {ac: 1, "bc": 1}, {ac: -1, bc: 1}, {ac: True, bc: 1}, {ac: 1, bc: None},
                      {ac: 1, bc: "1"}, [(ac, 1), (bc, 1)], (ac, bc), None, {"a": 1, "b": 1}, {1: 1, 2: 2}):
            self.assertIs(is_loads(book, value), False, value)
        for value in ODD_VALUES:
            self.assertIs(is_loads(book, value), False)
            self.assertIs(is_loads(book, {ac: value, bc: 0}), type(value) is int and 0 <= value <= 3)
            self.assertIs(is_loads(safe(), value), value == {} and isinstance(value, dict))

    def test_returned_values_are_new(self):
        book = line()
        least_back(book).append("x")
        loads(book).clear()
        sides(book)[0].clear()
        self.same([least_back(book), sides(book), len(loads(book))], [["c"], (["a", "b"], ["c"]), 2])
        ring = crossing(3, [1, 1, 1])
        odd_ring(ring).clear()
        self.same(len(odd_ring(ring)), 3)
        to_buy(book, book["a"].named("d")).clear()
        self.same(to_buy(book, book["a"].named("d")), ["a", "c"])

    def test_by_name(self):
        book = line()
        self.same([is_back(value=["c"], book=book), least_back(book=book), least_price(book=book)], [True, ["c"], 5])
        self.same([premium(name="c", book=book), sides(book=book)], [2, (["a", "b"], ["c"])])
        self.same([is_loads(value=loads(book=book), book=book), odd_ring(book=book)], [True, None])
        self.same(is_odd_ring(value=["a", "b", "c"], book=book), False)
        self.same(to_buy(deal=book["c"].named("d"), book=book), ["a", "b", "c"])


class ToBuy(Case):
    def test_touching_is_asked_for(self):
        book = line()
        wish = book["c"].named("d")
        self.same(to_buy(book, wish), ["a", "b", "c"])
        self.same(to_buy(book, wish.beside()), ["a", "b", "c"])
        self.same(to_buy(book, deal("d", ("day", 12), ("day", 20), "y")), [])
        self.same(to_buy(book, deal("aa", ("x", -9), ("x", -1))), ["c"])
        beside = Book(book.calendar, [one.beside() for one in book])
        self.same([to_buy(beside, wish), to_buy(beside, wish.beside())], [["a", "b", "c"], []])

    def test_its_own_clause_counts(self):
        # With its clause, x is on the day 5 at most, so a has ended on the day 14.
        book = Book(line().calendar, [line()["a"], deal("b", ("day", 16), ("day", 18))])
        self.same(to_buy(book, deal("d", ("x", 9), ("day", 14), "y")), [])
        self.same(to_buy(book, deal("d", ("x", 15), ("day", 15))), [])
        self.same(to_buy(book, deal("d", ("x", 15), ("day", 16))), ["b"])

    def test_errors(self):
        book = line()
        for value in ODD_VALUES + [deal("d", ("y", 0), ("x", 3)), deal("a", ("y", 0), ("y", 3))]:
            self.raised(InvalidDeal, lambda: to_buy(book, value), value=value)
        self.raised(NameTaken, lambda: to_buy(book, deal("a", ("x", 50), ("day", 0))), value="a")
        self.raised(NoDates, lambda: to_buy(book, deal("d", ("x", 50), ("day", 0))))
        ten = Book(Calendar(["m"], []), [deal(name, ("day", 0), ("day", 0)) for name in "abcdefghij"])
        self.raised(TooMany, lambda: to_buy(ten, deal("k", ("day", 0), ("day", 0))), what="deals", limit=10)
        full = Book(Calendar(["m"], [("m", "day", at) for at in range(40)]), [])
        self.raised(TooMany, lambda: to_buy(full, deal("k", ("m", 0), ("day", 50))), what="clauses", limit=40)
        self.raised(NoDates, lambda: to_buy(full, deal("k", ("day", 0), ("m", -1))))
        self.same(book, line())


class Wrong(Case):
    def test_unknown_deals(self):
        for value in ODD_VALUES + ["d", "ab", line()["a"], ["a"]]:
            if value != "a":
                self.raised(UnknownDeal, lambda: premium(line(), value), value=value)
