"""[21] and [22] (touch), [23] (on): the class Deal."""

import itertools

from letdays.calendars import Calendar
from letdays.deals import Deal
from letdays.errors import (InvalidDates, InvalidDeal, InvalidName, InvalidNames, InvalidNumber, InvalidPoint,
                            TooMany)
from tests.support import Case, ODD_VALUES, odd_but

BIG = 10 ** 30 - 1
PARTS = {"name": "d", "house": "h", "films": ["g", "f"], "lands": ["x"], "ways": ["hall", "disc"],
         "begin": ("day", 2), "end": ("m", 3), "alone": False, "price": 7}


def deal(**changes):
    """A deal with these parts in place of those of PARTS."""
    return Deal(**{**PARTS, **changes})


def told(one):
    """All parts of a deal."""
    return {name: getattr(one, name) for name in PARTS}


def sorted_parts(**changes):
    """The parts of deal(**changes), as its properties tell them."""
    parts = {**PARTS, **changes}
    return {**parts, **{name: tuple(sorted(parts[name])) for name in ("films", "lands", "ways")}}


class Parts(Case):
    def test_properties(self):
        self.same(told(deal()), sorted_parts())
        self.same(told(deal(films=("b", "c", "a"), lands=["z", "y"], ways=("w",))),
                  sorted_parts(films=("b", "c", "a"), lands=["z", "y"], ways=("w",)))
        self.same(deal(begin=("m", -4), end=("m", -4)).begin, ("m", -4))

    def test_by_position(self):
        made = Deal("d", "h", ["g", "f"], ["x"], ["hall", "disc"], ("day", 2), ("m", 3), price=7, alone=False)
        self.same(told(made), sorted_parts())

    def test_alone_and_price_by_name_only(self):
        values = [PARTS[name] for name in ("name", "house", "films", "lands", "ways", "begin", "end")]
        with self.assertRaises(TypeError):
            Deal(*values, True)
        with self.assertRaises(TypeError):
            Deal(*values, True, 1)
        self.same([Deal(*values).alone, Deal(*values).price], [True, 1])
        self.same([Deal(*values, price=0).alone, Deal(*values, price=0).price], [True, 0])
        self.same([Deal(*values, alone=False).alone, Deal(*values, alone=False).price], [False, 1])

    def test_most_of_each(self):
        made = deal(films=list("dcba"), lands=list("hgfe"), ways=list("kji"))
        self.same(len(made), 48)
        self.same([made.films, made.lands, made.ways], [tuple("abcd"), tuple("efgh"), tuple("ijk")])

    def test_one_name_in_several_lists(self):
        made = Deal("a", "a", ["a"], ["a"], ["a"], ("a", 0), ("a", 0))
        self.same(made.cells(), [("a", "a", "a")])

    def test_cells(self):
        self.same(deal().cells(), [("f", "x", "disc"), ("f", "x", "hall"), ("g", "x", "disc"), ("g", "x", "hall")])
        made = deal(films=["b", "a"], lands=["d", "c"], ways=["f", "e"])
        self.same(made.cells(), list(itertools.product(["a", "b"], ["c", "d"], ["e", "f"])))
        self.same([len(deal()), len(made), len(deal(films=["f"], ways=["w"]))], [4, 8, 1])

    def test_in(self):
        for cell in deal().cells():
            self.assertIs(cell in deal(), True)
        for value in (("f", "y", "disc"), ("f", "x", "net"), ("h", "x", "hall"), ("x", "f", "disc"), ["f", "x", "disc"],
                      ("f", "x"), ("f", "x", "disc", "d"), ("f", "x", None), ("f", "x", ["disc"]), "f", "d", "fxd"):
            self.assertIs(value in deal(), False)
        for value in ODD_VALUES:
            self.assertIs(value in deal(), False)
            self.assertIs(("f", "x", value) in deal(), False)
        self.assertIs(deal() in deal(), False)

    def test_moments(self):
        self.same(deal().moments(), ["m"])
        self.same(deal(begin=("n", 0)).moments(), ["m", "n"])
        self.same(deal(begin=("m", 0)).moments(), ["m"])
        self.same(deal(end=("day", 2)).moments(), [])
        self.same(deal(begin=("b", 9), end=("a", 0)).moments(), ["a", "b"])
        self.same(deal(begin=("m", 9), end=("day", 0)).moments(), ["m"])

    def test_own_clause(self):
        self.same(deal().own_clause(), ("day", "m", 1))
        self.same(deal(begin=("m", 9), end=("day", 0)).own_clause(), ("m", "day", -9))
        self.same(deal(begin=("a", -3), end=("b", 4)).own_clause(), ("a", "b", 7))
        self.same(deal(begin=("a", BIG), end=("b", -BIG)).own_clause(), ("a", "b", -2 * BIG))
        self.assertIsNone(deal(begin=("m", 3)).own_clause())
        self.assertIsNone(deal(end=("day", 9)).own_clause())

    def test_repr(self):
        made = Deal("d", "h", ["f"], ["l"], ["w"], ("day", 0), ("m", 3))
        self.same(repr(made), "Deal('d', 'h', ['f'], ['l'], ['w'], ('day', 0), ('m', 3), alone=True, price=1)")
        self.same(repr(deal()), "Deal('d', 'h', ['f', 'g'], ['x'], ['disc', 'hall'], ('day', 2), ('m', 3), "
                  "alone=False, price=7)")

    def test_equality(self):
        self.assertTrue(deal() == deal(films=("f", "g"), ways=("disc", "hall")))
        self.assertFalse(deal() != deal(films=("f", "g")))
        for name, value in (("name", "e"), ("house", "i"), ("films", ["f"]), ("lands", ["y"]), ("ways", ["disc"]),
                            ("begin", ("day", 1)), ("begin", ("m", 2)), ("end", ("m", 4)), ("end", ("n", 3)),
                            ("alone", True), ("price", 8)):
            self.assertFalse(deal() == deal(**{name: value}), name)
            self.assertTrue(deal() != deal(**{name: value}), name)
        self.assertFalse(deal(films=["a"], lands=["b"]) == deal(films=["b"], lands=["a"]))

    def test_not_equal_to_values_of_other_kinds(self):
        for value in ODD_VALUES + [repr(deal()), PARTS, Calendar([])]:
            self.assertIs(deal() == value, False)
            self.assertIs(deal() != value, True)

    def test_what_was_passed_or_returned_is_copied(self):
        films, lands, ways = ["g", "f"], ["x"], ["hall", "disc"]
        made = deal(films=films, lands=lands, ways=ways)
        self.same((films, lands, ways), (["g", "f"], ["x"], ["hall", "disc"]))
        for names in (films, lands, ways):
            names.append("zz")
        made.cells().clear()
        made.moments().append("z")
        self.same(told(made), sorted_parts())
        self.same([len(made), len(made.cells()), made.moments()], [4, 4, ["m"]])


WRONG_NAMES = ["", "day", "A", "a1", "a b", "abcdefg", "a\n", "a,b", " "]


class WrongParts(Case):
    def test_name_and_house(self):
        for part in ("name", "house"):
            for value in WRONG_NAMES + odd_but(str):
                self.raised(InvalidName, lambda: deal(**{part: value}), value=value)

    def test_lists(self):
        for part in ("films", "lands", "ways"):
            for value in odd_but(list, tuple) + [[], ()]:
                self.raised(InvalidNames, lambda: deal(**{part: value}), position=None)
            for value in WRONG_NAMES + odd_but(str):
                self.raised(InvalidNames, lambda: deal(**{part: ["a", value]}), position=1)
                self.raised(InvalidNames, lambda: deal(**{part: (value, "a")}), position=0)
            self.raised(InvalidNames, lambda: deal(**{part: ["a", "b", "a"]}), position=2)
            self.raised(InvalidNames, lambda: deal(**{part: ["a", "a", None]}), position=1)
            self.raised(InvalidNames, lambda: deal(**{part: ["a", "day", "a"]}), position=1)
            self.raised(InvalidNames, lambda: deal(**{part: list("abcdef") + [3]}), position=6)

    def test_points(self):
        wrong = [("a", True), ("a", False), ("a", None), ("a", "1"), ["a", 1], ("a",), ("a", 1, 1), ("", 1), ("A", 1),
                 ("abcdefg", 1), (None, 1), (1, "a"), (["a"], 1), ("a", (1,)), "a1"]
        for part in ("begin", "end"):
            for value in wrong + [value for value in ODD_VALUES if value != ("a", 1) or isinstance(value, list)]:
                self.raised(InvalidPoint, lambda: deal(**{part: value}), value=value)

    def test_begin_behind_end(self):
        for moment in ("m", "day"):
            self.raised(InvalidPoint, lambda: deal(begin=(moment, 4), end=(moment, 3)), value=(moment, 3))
            self.raised(InvalidPoint, lambda: deal(begin=(moment, BIG), end=(moment, -BIG)), value=(moment, -BIG))
            self.same(deal(begin=(moment, 3), end=(moment, 3)).end, (moment, 3))
        self.same(deal(begin=("m", 4), end=("n", 3)).end, ("n", 3))
        self.same(deal(begin=("m", 4), end=("day", 3)).end, ("day", 3))

    def test_price(self):
        for value in odd_but(int) + [-1, -BIG]:
            self.raised(InvalidNumber, lambda: deal(price=value), value=value)
        self.same([deal(price=0).price, deal(price=BIG).price], [0, BIG])

    def test_too_many(self):
        for part, names, limit in (("films", "abcde", 4), ("lands", "abcde", 4), ("ways", "abcd", 3)):
            self.raised(TooMany, lambda: deal(**{part: list(names)}), what=part, limit=limit)
            self.assertEqual(len(getattr(deal(**{part: list(names[:-1])}), part)), limit)

    def test_the_first_of_several(self):
        wrong = [
            ({"name": 1}, InvalidName, {"value": 1}), ({"house": "H"}, InvalidName, {"value": "H"}),
            ({"films": None}, InvalidNames, {"position": None}), ({"lands": ["x", 1]}, InvalidNames, {"position": 1}),
            ({"ways": ["x", "y", "x"]}, InvalidNames, {"position": 2}),
            ({"begin": ("m", None)}, InvalidPoint, {"value": ("m", None)}),
            ({"end": None}, InvalidPoint, {"value": None}), ({"price": True}, InvalidNumber, {"value": True}),
            ({"films": list("abcde")}, TooMany, {"what": "films", "limit": 4}),
            ({"lands": list("abcde")}, TooMany, {"what": "lands", "limit": 4}),
            ({"ways": list("abcd")}, TooMany, {"what": "ways", "limit": 3})]
        for (one, error, attributes), (other, _, _) in itertools.combinations(wrong, 2):
            if one.keys() != other.keys():
                self.raised(error, lambda: deal(**{**one, **other}), **attributes)

    def test_begin_behind_end_among_several(self):
        points = {"begin": ("m", 4), "end": ("m", 3)}
        self.raised(InvalidPoint, lambda: deal(price=-1, **points), value=("m", 3))
        self.raised(InvalidPoint, lambda: deal(films=list("abcde"), **points), value=("m", 3))
        self.raised(InvalidNames, lambda: deal(ways=[], **points), position=None)


class Others(Case):
    def check(self, made, **changes):
        """Check a deal made of another one, which stays as it was."""
        self.same(told(made), sorted_parts(**changes))
        self.assertEqual(made, deal(**changes))

    def test_made_of_one(self):
        one = deal(alone=True)
        self.check(one.named("e"), alone=True, name="e")
        self.check(one.named(name="e"), alone=True, name="e")
        self.check(one.of_house("i"), alone=True, house="i")
        self.check(one.of_house(house="i"), alone=True, house="i")
        self.check(one.priced(0), alone=True, price=0)
        self.check(one.priced(price=9), alone=True, price=9)
        self.check(one.beside())
        self.check(one.moved(5), alone=True, begin=("day", 7), end=("m", 8))
        self.check(one.moved(days=-5), alone=True, begin=("day", -3), end=("m", -2))
        self.check(one.moved(0), alone=True)
        self.check(one.moved(BIG), alone=True, begin=("day", 2 + BIG), end=("m", 3 + BIG))
        self.check(one, alone=True)

    def test_made_of_one_beside_others(self):
        one = deal()
        self.check(one.beside())
        self.check(one.named("e"), name="e")
        self.check(one.of_house("i"), house="i")
        self.check(one.priced(1), price=1)
        self.check(one.moved(1), begin=("day", 3), end=("m", 4))
        self.same(one.moved(9).own_clause(), one.own_clause())

    def test_wrong(self):
        for value in WRONG_NAMES + odd_but(str):
            self.raised(InvalidName, lambda: deal().named(value), value=value)
            self.raised(InvalidName, lambda: deal().of_house(value), value=value)
        for value in odd_but(int):
            self.raised(InvalidNumber, lambda: deal().priced(value), value=value)
            self.raised(InvalidNumber, lambda: deal().moved(value), value=value)
        self.raised(InvalidNumber, lambda: deal().priced(-1), value=-1)


class Days(Case):
    def test_days(self):
        self.same(deal().days({"m": 4}), (2, 7))
        self.same(deal().days(dates={"m": -1}), (2, 2))
        self.same(deal(begin=("n", -1)).days({"n": 5, "m": 5}), (4, 8))
        self.same(deal(begin=("m", -1)).days({"m": 5}), (4, 8))
        self.same(deal(end=("day", 9)).days({}), (2, 9))
        self.same(deal(begin=("m", 5), end=("day", 9)).days({"m": 4}), (9, 9))

    def test_further_entries_have_no_effect(self):
        self.same(deal().days({"m": 4, "n": 3, "day": 99, 7: None, None: True, ("a",): []}), (2, 7))
        self.same(deal(end=("day", 9)).days({"day": 100, "m": None}), (2, 9))
        self.assertIs(deal().is_on({"day": 5, "m": 4}, 2), True)

    def test_thirty_digits(self):
        self.same(deal().days({"m": BIG}), (2, BIG + 3))
        self.same(deal(begin=("m", -BIG), end=("m", BIG)).days({"m": BIG}), (0, 2 * BIG))
        self.assertIs(deal().is_on({"m": BIG}, BIG + 3), True)
        self.assertIs(deal().is_on({"m": BIG}, BIG + 4), False)

    def test_is_on(self):
        for day in range(-2, 12):
            self.assertIs(deal().is_on({"m": 4}, day), 2 <= day <= 7)
            self.assertIs(deal().is_on(day=day, dates={"m": -1}), day == 2)

    def test_wrong_dates(self):
        wrong = [{}, {"n": 1}, {"m": None}, {"m": True}, {"m": "4"}, {"m": [4]}, {"m": -2}, {"m": -BIG}, {"day": 4},
                 [("m", 4)], (("m", 4),)]
        for value in wrong + ODD_VALUES:
            self.raised(InvalidDates, lambda: deal().days(value), value=value)
            self.raised(InvalidDates, lambda: deal().is_on(value, 3), value=value)
            self.raised(InvalidDates, lambda: deal().is_on(value, None), value=value)
        self.raised(InvalidDates, lambda: deal(begin=("n", 0)).days({"m": 4}), value={"m": 4})
        self.raised(InvalidDates, lambda: deal(begin=("n", 0)).days({"n": 4}), value={"n": 4})
        self.raised(InvalidDates, lambda: deal(begin=("n", 0)).days({"m": 0, "n": 4}), value={"m": 0, "n": 4})
        for value in odd_but(dict):
            self.raised(InvalidDates, lambda: deal(end=("day", 9)).days(value), value=value)

    def test_wrong_day(self):
        for value in odd_but(int):
            self.raised(InvalidNumber, lambda: deal().is_on({"m": 4}, value), value=value)

    def test_dates_stay(self):
        dates = {"x": 1, "m": 4}
        deal().days(dates)
        deal().is_on(dates, 3)
        self.same(dates, {"x": 1, "m": 4})


class Touching(Case):
    def test_common_cells(self):
        one = deal(films=["a", "b"], lands=["x", "y"], ways=["u"])
        other = deal(films=["b", "c"], lands=["y", "x", "z"], ways=["w", "u"])
        self.same(one & other, [("b", "x", "u"), ("b", "y", "u")])
        self.same(other & one, [("b", "x", "u"), ("b", "y", "u")])
        self.same(one & one, one.cells())
        for apart in (deal(films=["c"], lands=["x"], ways=["u"]), deal(films=["a"], lands=["z"], ways=["u"]),
                      deal(films=["a"], lands=["x"], ways=["w"]), deal(films=["x"], lands=["a"], ways=["u"])):
            self.same(one & apart, [])
            self.assertIs(one.touches(apart), False)
            self.assertIs(deal(alone=True, films=["a", "b"], lands=["x", "y"], ways=["u"]).touches(apart), False)

    def test_touches(self):
        for one_alone, other_alone in itertools.product([True, False], repeat=2):
            one, other = deal(alone=one_alone), deal(alone=other_alone, name="e", house="i", films=["f", "z"])
            self.assertIs(one.touches(other), one_alone or other_alone)
            self.assertIs(other.touches(other=one), one_alone or other_alone)
            self.assertIs(one.touches(one), one_alone)

    def test_days_have_no_effect(self):
        self.assertIs(deal(alone=True).touches(deal(begin=("day", 500), end=("day", 600))), True)

    def test_no_deal(self):
        for value in ODD_VALUES + [PARTS, deal().cells(), Calendar([])]:
            self.raised(InvalidDeal, lambda: deal() & value, value=value)
            self.raised(InvalidDeal, lambda: deal().touches(value), value=value)

    def test_both_stay(self):
        one, other = deal(), deal(films=["f"])
        (one & other).clear()
        self.same(told(one), sorted_parts())
        self.same((one & other), [("f", "x", "disc"), ("f", "x", "hall")])
