"""[81] and [82]: choices, cuts, takings and what the others leave, against all ways to give films, one by one."""

import itertools

from letdays.errors import InvalidNames, UnknownHouse
from letdays.lots import (Lots, choice, cover, cut, is_choice, is_cover, is_cut, is_sure, is_taking, left, most_taken,
                          taking, worst_taking)
from tests.support import Anything, Case, ODD_VALUES, lots_of, numbers
from tests.test_lots import eight, three

BIG = 10 ** 29


def some_lots(source, houses, films, most):
    """Lots of some houses of these films."""
    return Lots([(house, source.sample(films, source.randint(1, len(films))), source.randint(0, most))
                 for house in houses])


def drawn_lots(seed, count, houses="abc", films="fghk", most=3):
    source = numbers(seed)
    return [some_lots(source, houses, films, most) for _ in range(count)]


def takings_by_hand(lots, houses):
    """All takings by these houses."""
    every = [[lot for lot in lots_of(lots[house][1]) if len(lot) <= lots[house][2]] for house in houses]
    found = []
    for given in itertools.product(*every):
        films = [film for lot in given for film in lot]
        if len(set(films)) == len(films):
            found.append(dict(zip(houses, given)))
    return found


def choices_by_hand(lots):
    return [given for given in takings_by_hand(lots, list(lots))
            if all(len(given[house]) == lots[house][2] for house in lots)]


def cuts_by_hand(lots):
    return [lot for lot in lots_of(lots) if lot
            and len({film for house in lot for film in lots[house][1]}) < sum(lots[house][2] for house in lot)]


def left_by_hand(lots, house, taken):
    """How many films of the lot of the house no one has in a taking."""
    return len([film for film in lots[house][1] if not any(film in films for films in taken.values())])


def covers_by_hand(lots, house, others):
    """All covers of the house beside the others."""
    found = []
    for houses in lots_of(others):
        for films in lots_of(lots[house][1]):
            owners = {film: [other for other in others if film in lots[other][1]] for film in lots[house][1]}
            if all(film in films or all(other in houses for other in owners[film]) for film in owners):
                found.append((houses, films))
    return found


def size(lots, one):
    return len(one[1]) + sum(lots[house][2] for house in one[0])


class Choices(Case):
    def test_a_choice_or_a_cut(self):
        told = [0, 0]
        for lots in drawn_lots(341, 80) + drawn_lots(342, 40, "abcd", "fgh", 2):
            choices, cuts, found, short = choices_by_hand(lots), cuts_by_hand(lots), choice(lots), cut(lots)
            told[bool(choices)] += 1
            self.same([bool(choices), found is None, short is None], [not cuts, not choices, not cuts])
            if choices:
                self.assertIn(found, choices)
                self.same([type(found), list(found)], [dict, list(lots)])
                self.same([type(films) for films in found.values()], [list] * len(lots))
            else:
                self.assertIs(type(short), list)
                self.assertIn(short, cuts)
            self.assertIs(is_choice(lots, found), bool(choices))
            self.assertIs(is_cut(lots, short), bool(cuts))
        self.assertGreater(min(told), 30)

    def test_takings(self):
        for lots in drawn_lots(343, 80) + drawn_lots(344, 30, "abcd", "fgh", 2):
            every = takings_by_hand(lots, list(lots))
            most = max(sum(map(len, given.values())) for given in every)
            found = taking(lots)
            self.same(most_taken(lots), most)
            self.assertIn(found, every)
            self.same([type(found), list(found), sum(map(len, found.values()))], [dict, list(lots), most])
            self.assertIs(is_taking(lots, found), True)

    def test_judged_against_all(self):
        told = [0, 0, 0]
        for lots in drawn_lots(345, 50, "abc", "fgh", 2):
            choices, takings = choices_by_hand(lots), takings_by_hand(lots, list(lots))
            lists = lots_of("fgh") + [["g", "f"], ["f", "f"], ["h", "g"], ["k"]]
            for given in itertools.product(lists, repeat=3):
                value = dict(zip("abc", given))
                told[(value in takings) + (value in choices)] += 1
                self.assertIs(is_choice(lots, value), value in choices)
                self.assertIs(is_taking(lots, value), value in takings)
                turned = {house: tuple(value[house]) for house in "cab"}
                self.assertIs(is_choice(lots, turned), value in choices)
                self.assertIs(is_taking(lots, turned), value in takings)
        self.assertGreater(min(told), 40)

    def test_cuts_judged_against_all(self):
        told = [0, 0]
        for lots in drawn_lots(346, 40, "abcd", "fgh", 2):
            cuts = cuts_by_hand(lots)
            for many in range(5):
                for row in itertools.product("abcd", repeat=many):
                    told[list(row) in cuts] += 1
                    self.assertIs(is_cut(lots, list(row)), list(row) in cuts)
                    self.assertIs(is_cut(lots, row), list(row) in cuts)
        self.assertGreater(min(told), 40)

    def test_houses_that_want_nothing(self):
        lots = Lots([("x", ["f"], 0), ("y", ["f", "g"], 2), ("z", ["g"], 0)])
        self.same([choice(lots), taking(lots), most_taken(lots), cut(lots)],
                  [{"x": [], "y": ["f", "g"], "z": []}, {"x": [], "y": ["f", "g"], "z": []}, 2, None])
        idle = Lots([("x", ["f"], 0)])
        self.same([choice(idle), taking(idle), most_taken(idle), cut(idle)], [{"x": []}, {"x": []}, 0, None])

    def test_eight_houses_of_eight_films(self):
        lots = Lots([(house, films, 8) for house, films, _ in eight()])
        self.same(choice(lots), {house: films for house, films, _ in eight()})
        self.same([most_taken(lots), cut(lots)], [64, None])
        shared = Lots([(house, list("fghklmno"), 1) for house in "abcdefgh"])
        self.assertIs(is_choice(shared, choice(shared)), True)
        more = Lots([(house, list("fghklmno"), 2 if house == "c" else 1) for house in "abcdefgh"])
        self.same([choice(more), most_taken(more), cut(more)], [None, 8, list("abcdefgh")])
        self.assertIs(is_taking(more, taking(more)), True)

    def test_by_a_way_around(self):
        # Each house must give way to the one behind it.
        names = "abcdefgh"
        lots = Lots([(house, list(names[max(at - 1, 0):at + 1]), 1) for at, house in enumerate(names)])
        self.same(choice(lots), {house: [house] for house in names})
        back = Lots([(house, list(names[at:at + 2]), 1) for at, house in enumerate(names)])
        self.same(choice(back), {house: [house] for house in names})

    def test_great_numbers(self):
        lots = Lots([("x", ["f", "g"], BIG), ("y", ["g"], 0)])
        self.same([choice(lots), most_taken(lots), taking(lots), cut(lots)],
                  [None, 2, {"x": ["f", "g"], "y": []}, ["x"]])

    def test_values_of_any_kind(self):
        lots = three()
        right = {"x": ["f"], "y": ["g"], "z": ["h"]}
        self.same([is_choice(lots, right), is_taking(lots, right), is_taking(lots, {**right, "y": []})], [True] * 3)
        self.assertIs(is_choice(lots, {**right, "y": []}), False)
        for value in ODD_VALUES + [list(right.items()), {**right, "w": []}, {**right, 1: []}, {**right, None: ["f"]},
                                   {"x": ["f"], "y": ["g"]}, {"x": ["f"], "y": ["g"], 1: ["h"]}, Anything(),
                                   {"x": ["f"], "y": ["g"], ("z",): ["h"]}, {"x": ["f"], "y": ["g"], None: []}, lots]:
            for judge in (is_choice, is_taking):
                self.assertIs(judge(lots, value), False)
        for value in ODD_VALUES + ["h", {"h": 1}, ["hh"], ["h", "h"], [["h"]], ["H"], ["h", None], {"h"}, Anything(),
                                   [Anything()]]:
            expected = isinstance(value, (list, tuple)) and len(value) == 0
            self.assertIs(is_choice(lots, {**right, "z": value}), False)
            self.assertIs(is_taking(lots, {**right, "z": value}), expected)
        for judge in (is_choice, is_taking):
            self.assertIs(judge(lots, {**right, "z": ["g"]}), False)
            self.assertIs(judge(lots, {**right, "z": ["f", "h"]}), False)

    def test_cuts_of_any_kind(self):
        lots = Lots([("x", ["f"], 1), ("y", ["f"], 1), ("z", ["g"], 1)])
        self.same([is_cut(lots, value) for value in (["x", "y"], ("x", "y"), ["x", "y", "z"])], [True] * 3)
        for value in ODD_VALUES + [["y", "x"], ["x", "x"], ["x"], ["x", "z"], ["x", "y", "y"], ["x", "y", "w"], "xy",
                                   {"x": 1, "y": 1}, {"x", "y"}, [["x", "y"]], ["x", "y", None], Anything(), lots]:
            self.assertIs(is_cut(lots, value), False)
            self.assertIs(is_cut(lots, ["x", "y", value]), False)
            self.assertIs(is_cut(lots, [value, "x", "y"]), False)


class Left(Case):
    def test_against_all_takings(self):
        told = [0, 0]
        for lots in drawn_lots(347, 40) + drawn_lots(348, 20, "abcd", "fgh", 2):
            for house in lots:
                for others in lots_of([other for other in lots if other != house]):
                    self.check(lots, house, others, told)
        self.assertGreater(min(told), 100)

    def check(self, lots, house, others, told):
        every = takings_by_hand(lots, others)
        least = min(left_by_hand(lots, house, taken) for taken in every)
        for given in (others, tuple(others[::-1])):
            self.same(left(lots, house, given), least)
            self.assertIs(is_sure(lots, house, given), least >= lots[house][2])
            worst, covered = worst_taking(lots, house, given), cover(lots, house, given)
            self.assertIn(worst, every)
            self.same([type(worst), list(worst), left_by_hand(lots, house, worst)], [dict, others, least])
            self.same([type(films) for films in worst.values()], [list] * len(others))
            self.assertIn(covered, covers_by_hand(lots, house, others))
            self.same([type(covered), [type(part) for part in covered]], [tuple, [list, list]])
            self.same(len(lots[house][1]) - size(lots, covered), least)
            self.assertIs(is_cover(lots, house, given, covered), True)
        told[least >= lots[house][2]] += 1

    def test_no_cover_is_less(self):
        for lots in drawn_lots(349, 20):
            for house in lots:
                others = [other for other in lots if other != house]
                most = len(lots[house][1]) - left(lots, house, others)
                self.same(min(size(lots, one) for one in covers_by_hand(lots, house, others)), most)

    def test_covers_judged_against_all(self):
        told = [0, 0]
        for lots in drawn_lots(350, 20):
            for others in (["b", "c"], ["c"], []):
                covers = covers_by_hand(lots, "a", others)
                for houses in lots_of("abcd"):
                    for films in lots_of("fghkz"):
                        told[(houses, films) in covers] += 1
                        for value in ((houses, films), (tuple(houses), tuple(films))):
                            self.assertIs(is_cover(lots, "a", others, value), (houses, films) in covers)
                        self.assertIs(is_cover(lots, "a", others, [houses, films]), False)
        self.assertGreater(min(told), 100)

    def test_nobody_as_the_others(self):
        for house, many in (("x", 2), ("z", 3)):
            for others in ([], ()):
                self.same([left(three(), house, others), is_sure(three(), house, others)], [many, True])
                self.same([worst_taking(three(), house, others), cover(three(), house, others)], [{}, ([], [])])
                self.assertIs(is_cover(three(), house, others, ([], [])), True)
        self.assertIs(is_sure(Lots([("x", ["f"], 2)]), "x", []), False)

    def test_eight_houses(self):
        lots = Lots([(house, list("fghklmno"), 1) for house in "abcdefgh"])
        self.same([left(lots, "a", list("bcdefgh")), is_sure(lots, "a", list("hgfedcb"))], [1, True])
        self.same(len(worst_taking(lots, "a", list("bcdefgh"))), 7)
        self.same(size(lots, cover(lots, "a", list("bcdefgh"))), 7)

    def test_spoilt_covers(self):
        lots = three()
        for value in ((["x", "y"], []), (["x"], ["g", "h"]), (["y"], ["f", "g"]), ([], ["f", "g", "h"]),
                      (["x", "y"], ["f"]), (("x", "y"), ())):
            self.assertIs(is_cover(lots, "z", ["y", "x"], value), True, value)
        for value in ((["y", "x"], []), (["x", "x", "y"], []), (["x", "y", "z"], []), (["x"], ["h", "g"]),
                      (["x"], ["g", "h", "h"]), (["x"], ["h"]), (["x"], ["g", "h", "k"]), ([], []), (["y"], ["g"]),
                      (["x", "y"], ["k"]), (["x", "y"],), (["x", "y"], [], []), [["x", "y"], []], "xy",
                      (["x", "w"], ["h"]), ({"x", "y"}, []), (["x", "y"], {}), {"x": [], "y": []}, ("xy", [])):
            self.assertIs(is_cover(lots, "z", ["y", "x"], value), False, value)
        self.assertIs(is_cover(lots, "z", ["y"], (["x", "y"], [])), False)
        self.assertIs(is_cover(lots, "x", ["y"], ([], ["g"])), True)
        self.assertIs(is_cover(lots, "x", ["y"], ([], ["g", "h"])), False)

    def test_covers_of_any_kind(self):
        lots = three()
        for value in ODD_VALUES + [Anything(), lots]:
            empty = isinstance(value, (list, tuple)) and len(value) == 0
            self.assertIs(is_cover(lots, "z", ["x", "y"], value), False)
            self.assertIs(is_cover(lots, "z", ["x", "y"], (["x", "y"], value)), empty)
            self.assertIs(is_cover(lots, "z", ["x", "y"], (value, ["f", "g", "h"])), empty)
            self.assertIs(is_cover(lots, "z", ["x", "y"], (["x", value], ["f", "g", "h"])), False)
            self.assertIs(is_cover(lots, "z", ["x", "y"], (["x", "y"], ["f", value])), False)


class Wrong(Case):
    calls = (left, is_sure, worst_taking, cover, lambda lots, house, others: is_cover(lots, house, others, None))

    def test_houses(self):
        for call in self.calls:
            for value in ODD_VALUES + ["f", "xx", ["x"], Anything()]:
                self.raised(UnknownHouse, lambda: call(three(), value, None))
                self.raised(UnknownHouse, lambda: call(three(), value, ["x"]))

    def test_others(self):
        for call in self.calls:
            for value in ODD_VALUES + ["xy", {"x": 1}, three(), Anything()]:
                if not isinstance(value, (list, tuple)):
                    self.raised(InvalidNames, lambda: call(three(), "z", value), position=None)
            for value in ODD_VALUES + ["z", "w", "f", ["x"], Anything()]:
                self.raised(InvalidNames, lambda: call(three(), "z", [value, None]), position=0)
                self.raised(InvalidNames, lambda: call(three(), "z", ("y", value)), position=1)
            self.raised(InvalidNames, lambda: call(three(), "z", ["x", "y", "x"]), position=2)
            self.raised(InvalidNames, lambda: call(three(), "x", ["y", "y", "w"]), position=1)

    def test_by_name(self):
        lots, others = three(), ["y", "x"]
        self.same(left(others=others, house="z", lots=lots), 1)
        self.same(is_sure(others=others, house="z", lots=lots), True)
        self.same(left_by_hand(lots, "z", worst_taking(others=others, house="z", lots=lots)), 1)
        self.same(is_cover(value=cover(others=others, house="z", lots=lots), others=others, house="z", lots=lots), True)
        self.same([is_choice(value=choice(lots=lots), lots=lots), is_taking(value=taking(lots=lots), lots=lots)],
                  [True, True])
        self.same([cut(lots=lots), is_cut(value=["x"], lots=lots), most_taken(lots=lots)], [None, False, 3])
        self.same([others, repr(lots)], [["y", "x"], repr(three())])

    def test_what_is_returned_is_new(self):
        lots = three()
        for call in (lambda: choice(lots), lambda: taking(lots), lambda: worst_taking(lots, "z", ["x", "y"])):
            told = repr(call())
            call()["x"].clear()
            call().clear()
            self.same(repr(call()), told)
        cover(lots, "z", ["x", "y"])[0].clear()
        self.same(size(lots, cover(lots, "z", ["x", "y"])), 2)
        short = Lots([("x", ["f"], 2)])
        cut(short).clear()
        self.same(cut(short), ["x"])
