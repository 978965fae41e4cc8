"""`Lots`: houses, the films of their lots, and the numbers that they want."""

import itertools

from letdays.errors import InvalidLots, InvalidNames, TooMany, UnknownHouse
from letdays.lots import Lots
from letdays.pairs import words
from tests.support import Anything, Case, ODD_VALUES

BIG = 10 ** 29


def three():
    """The lots of the document's example."""
    return Lots([("x", ["f", "g"], 1), ("y", ["g", "h"], 1), ("z", ["f", "g", "h"], 1)])


def eight(many=8):
    """Eight houses, each with so many films of its own."""
    return [(house, [house + film for film in "abcdefgh"[:many]], 2) for house in "abcdefgh"]


class Parts(Case):
    def test_ordinary(self):
        for lots in (Lots([("k", ["g", "f"], 2), ("h", ["f", "e", "g"], 0)]), Lots((("k", ("f", "g"), 2),
                     ("h", ("g", "e", "f"), 0))), Lots(lots=[("h", ["e", "f", "g"], 0), ("k", ["f", "g"], 2)])):
            self.same([lots.all_houses(), lots.all_films(), len(lots)], [["h", "k"], ["e", "f", "g"], 2])
            self.same([lots["h"], lots["k"]], [("h", ["e", "f", "g"], 0), ("k", ["f", "g"], 2)])
            self.same(repr(lots), "Lots([('h', ['e', 'f', 'g'], 0), ('k', ['f', 'g'], 2)])")
            self.same([house for house in lots], ["h", "k"])

    def test_one_house(self):
        lots = Lots([("h", ["f"], BIG)])
        self.same([lots.all_houses(), lots.all_films(), lots["h"]], [["h"], ["f"], ("h", ["f"], BIG)])
        self.same([len(lots), repr(lots)], [1, f"Lots([('h', ['f'], {BIG})])"])

    def test_eight_of_eight(self):
        lots = Lots(eight()[::-1])
        self.same([len(lots), list(lots), len(lots.all_films())], [8, list("abcdefgh"), 64])
        self.same(lots.all_films(), sorted(lots.all_films()))

    def test_a_house_and_a_film_may_have_one_name(self):
        lots = Lots([("a", ["a", "b"], 1), ("b", ["b"], 1)])
        self.same([lots.all_houses(), lots.all_films(), lots["a"]], [["a", "b"], ["a", "b"], ("a", ["a", "b"], 1)])

    def test_item_for_any_value(self):
        for value in ODD_VALUES + ["f", "xx", "day", ("x",), ["x"], 0, Anything()]:
            with self.assertRaises(UnknownHouse) as told:
                three()[value]
            self.assertIs(told.exception.value, value)

    def test_in_for_any_value(self):
        self.same([house in three() for house in "xyz"], [True] * 3)
        for value in ODD_VALUES + ["f", "xx", "day", ("x",), ["x"], ("x", ["f", "g"], 1), three(), Anything()]:
            self.assertIs(value in three(), False)

    def test_iteration(self):
        lots = three()
        self.same([list(lots), tuple(lots), sorted(lots), list(enumerate(lots))],
                  [["x", "y", "z"], ("x", "y", "z"), ["x", "y", "z"], [(0, "x"), (1, "y"), (2, "z")]])
        walk = [(one, other) for one in lots for other in lots]
        self.same(walk, list(itertools.product("xyz", repeat=2)))
        first, second = iter(lots), iter(lots)
        self.same([next(first), next(first), next(second), next(first), next(second)], ["x", "y", "x", "z", "y"])

    def test_what_is_passed_or_returned_has_no_effect_later(self):
        films = ["g", "f"]
        given = [("x", films, 1), ("y", ["g"], 1)]
        lots = Lots(given)
        self.same(given, [("x", ["g", "f"], 1), ("y", ["g"], 1)])
        films.append("k")
        given.clear()
        lots["x"][1].clear()
        lots.all_houses().clear()
        lots.all_films().clear()
        self.same([lots["x"], lots.all_houses(), lots.all_films(), len(lots)],
                  [("x", ["f", "g"], 1), ["x", "y"], ["f", "g"], 2])

    def test_never_changes(self):
        with self.assertRaises(TypeError):
            three()["x"] = ("x", ["f"], 1)


class Equal(Case):
    def test_in_whatever_sequence(self):
        other = Lots([("z", ("h", "g", "f"), 1), ("x", ["g", "f"], 1), ("y", ["h", "g"], 1)])
        self.assertIs(three() == other, True)
        self.assertIs(three() != other, False)
        self.same(repr(three()), repr(other))

    def test_one_part_other(self):
        for lots in ([("x", ["f", "g"], 1), ("y", ["g", "h"], 1)], [("x", ["f", "g"], 1)],
                     [("x", ["f", "g"], 2), ("y", ["g", "h"], 1), ("z", ["f", "g", "h"], 1)],
                     [("x", ["f"], 1), ("y", ["g", "h"], 1), ("z", ["f", "g", "h"], 1)],
                     [("w", ["f", "g"], 1), ("y", ["g", "h"], 1), ("z", ["f", "g", "h"], 1)]):
            self.assertIs(three() == Lots(lots), False)
            self.assertIs(three() != Lots(lots), True)

    def test_other_kinds(self):
        for value in ODD_VALUES + [list(three()), [three()[house] for house in "xyz"], words]:
            self.assertIs(three() == value, False)
            self.assertIs(value == three(), False)


class Behind(Case):
    def test_without(self):
        self.assertIs(three().without("y") == Lots([("x", ["f", "g"], 1), ("z", ["f", "g", "h"], 1)]), True)
        self.same(repr(three().without(house="x").without("z")), "Lots([('y', ['g', 'h'], 1)])")
        for value in ODD_VALUES + ["f", "xx", ["x"], Anything()]:
            self.raised(UnknownHouse, lambda: three().without(value))
            self.raised(UnknownHouse, lambda: Lots([("x", ["f"], 1)]).without(value))
        self.raised(InvalidLots, lambda: Lots([("x", ["f"], 1)]).without("x"), position=None)

    def test_chosen(self):
        self.same(repr(three().chosen("x", ["g"])), "Lots([('y', ['h'], 1), ('z', ['f', 'h'], 1)])")
        self.same(repr(three().chosen(films=("f",), house="x")), "Lots([('y', ['g', 'h'], 1), ('z', ['g', 'h'], 1)])")
        two = Lots([("x", ["f", "g", "h"], 2), ("y", ["g", "k"], 5), ("z", ["m"], 0)])
        for films in (["h", "g"], ("g", "h")):
            self.same(repr(two.chosen("x", films)), "Lots([('y', ['k'], 5), ('z', ['m'], 0)])")
        self.same(repr(two.chosen("z", [])), "Lots([('x', ['f', 'g', 'h'], 2), ('y', ['g', 'k'], 5)])")
        self.same(repr(two.chosen("z", ())), repr(two.chosen("z", [])))

    def test_chosen_again_and_again(self):
        lots = three().chosen("x", ["f"]).chosen("z", ["h"])
        self.same(repr(lots), "Lots([('y', ['g'], 1)])")
        self.raised(InvalidLots, lambda: lots.chosen("y", ["g"]), position=None)

    def test_chosen_wrong_films(self):
        two = Lots([("x", ["f", "g", "h"], 2), ("y", ["a", "k"], 5), ("z", ["m"], 0)])
        for value in ODD_VALUES + ["fg", ["f"], ["f", "g", "h"], ["f", "f"], ["f", "a"], ["f", "zz"], [["f"], "g"],
                                   ["f", None], ["f", True], {"f": 1, "g": 2}, (("f", "g"),), [Anything(), "f"],
                                   ["f", "g", "g"], Anything()]:
            self.raised(InvalidNames, lambda: two.chosen("x", value), position=None)
            if value not in ([], ()):
                self.raised(InvalidNames, lambda: two.chosen("z", value), position=None)
            # It wants more films than its lot has.
            self.raised(InvalidNames, lambda: two.chosen("y", value), position=None)
        self.raised(InvalidNames, lambda: two.chosen("y", ["a", "k"]), position=None)

    def test_chosen_errors_in_sequence(self):
        lots = Lots([("x", ["f", "g"], 1), ("y", ["g"], 1)])
        for value in ODD_VALUES + ["f", Anything()]:
            self.raised(UnknownHouse, lambda: lots.chosen(value, None))
        self.raised(InvalidLots, lambda: lots.chosen("x", ["g"]), position=None)
        self.raised(InvalidNames, lambda: lots.chosen("x", ["g", "g"]), position=None)
        self.same(repr(lots.chosen("x", ["f"])), "Lots([('y', ['g'], 1)])")
        for others in ([("y", ["g"], 1), ("z", ["f", "h"], 1)], [("y", ["g", "h"], 0), ("z", ["g"], 0)]):
            more = Lots([("x", ["f", "g"], 1)] + others)
            self.raised(InvalidLots, lambda: more.chosen("x", ["g"]), position=None)
            self.same(len(more.chosen("x", ["f"])), 2)
        alone = Lots([("x", ["f"], 1)])
        self.raised(InvalidNames, lambda: alone.chosen("x", []), position=None)
        self.raised(InvalidLots, lambda: alone.chosen("x", ["f"]), position=None)
        self.raised(UnknownHouse, lambda: alone.chosen("y", ["f"]), value="y")

    def test_nothing_has_changed(self):
        lots = three()
        lots.without("x")
        lots.chosen("x", ["g"])
        self.raised(InvalidNames, lambda: lots.chosen("x", []), position=None)
        self.same(repr(lots), repr(three()))


class Wrong(Case):
    def test_no_list(self):
        for value in ODD_VALUES + ["h", {"h": 1}, ("h", ["f"], 1), three(), Anything(), [], ()]:
            position = None if not isinstance(value, (list, tuple)) or len(value) == 0 else 0
            self.raised(InvalidLots, lambda: Lots(value), position=position)

    def test_wrong_elements(self):
        right = ("h", ["f", "g"], 1)
        for value in ODD_VALUES + [["h", ["f"], 1], ("h", ["f"]), ("h", ["f"], 1, 1), ("h", "f", 1), "hf1", Anything(),
                                   ("h", [], 1), ("h", (), 1), ("h", ["f", "f"], 1), ("h", {"f": 1}, 1), right,
                                   ("h", ["f", "day"], 1), ("h", [["f"]], 1), ("h", ["f", None], 1)]:
            position = 1 if value is right else 0
            self.raised(InvalidLots, lambda: Lots([value, right, None]), position=position)
            self.raised(InvalidLots, lambda: Lots((right, value)), position=1)

    def test_wrong_houses_films_and_numbers(self):
        for value in ODD_VALUES + ["day", "seven" * 2, "A", Anything()]:
            if value != "a" or not isinstance(value, str):
                self.raised(InvalidLots, lambda: Lots([("k", ["f"], 1), (value, ["f"], 1)]), position=1)
                self.raised(InvalidLots, lambda: Lots([("k", ["f"], 1), ("h", ["f", value], 1)]), position=1)
                self.raised(InvalidLots, lambda: Lots([("h", (value,), 1)]), position=0)
            if type(value) is not int or value < 0:
                self.raised(InvalidLots, lambda: Lots([("k", ["f"], 1), ("h", ["f"], value)]), position=1)

    def test_a_house_twice(self):
        self.raised(InvalidLots, lambda: Lots([("h", ["f"], 1), ("k", ["f"], 1), ("h", ["f"], 1)]), position=2)
        self.raised(InvalidLots, lambda: Lots([("h", ["f"], 1), ("h", [], 1)]), position=1)

    def test_limits(self):
        nine = eight() + [("i", ["f"], 1)]
        wide = ("k", list("abcdefghi"), 1)
        self.raised(TooMany, lambda: Lots(nine), what="houses", limit=8)
        self.raised(TooMany, lambda: Lots([wide]), what="films", limit=8)
        self.raised(TooMany, lambda: Lots(eight()[:7] + [wide]), what="films", limit=8)
        self.raised(TooMany, lambda: Lots(nine + [wide]), what="houses", limit=8)
        self.raised(TooMany, lambda: Lots([wide] + eight()), what="houses", limit=8)
        self.raised(InvalidLots, lambda: Lots(nine + [wide, None]), position=10)
        self.raised(InvalidLots, lambda: Lots(nine + [("a", ["f"], 1)]), position=9)
        self.same(len(Lots([("k", list("abcdefgh"), 1)]).all_films()), 8)
