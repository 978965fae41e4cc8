"""[83]: safe turns and stuck lists, against all sequences and lots of houses, gone through one by one."""

import itertools

from letdays.errors import TooMany
from letdays.lots import Lots, is_sure
from letdays.turns import is_safe_turn, is_stuck, safe_turn, stuck, turns
from tests.support import Anything, Case, ODD_VALUES, lots_of
from tests.test_lots import eight, three
from tests.test_takings import drawn_lots, left_by_hand, takings_by_hand


def is_sure_by_hand(lots, house, others):
    return min(left_by_hand(lots, house, taken) for taken in takings_by_hand(lots, others)) >= lots[house][2]


def turns_by_hand(lots):
    """All safe turns, in ascending order."""
    sure = {(house, tuple(some)): is_sure_by_hand(lots, house, some)
            for house in lots for some in lots_of([other for other in lots if other != house])}
    return [list(row) for row in itertools.permutations(lots)
            if all(sure[(house, tuple(sorted(row[:at])))] for at, house in enumerate(row))]


def stuck_by_hand(lots):
    return [some for some in lots_of(lots) if some and not any(
        is_sure_by_hand(lots, house, [other for other in some if other != house]) for house in some)]


class AgainstAll(Case):
    def test_safe_turns_and_stuck_lists(self):
        told = [0, 0]
        for lots in drawn_lots(361, 60) + drawn_lots(362, 25, "abcd", "fghk", 2) + drawn_lots(363, 8, "ab", "fg", 2):
            every, bars, found, fast = turns_by_hand(lots), stuck_by_hand(lots), safe_turn(lots), stuck(lots)
            told[bool(every)] += 1
            self.same([found is None, fast is None], [not every, not bars])
            self.same(bool(every), not bars)
            if every:
                self.assertIs(type(found), list)
                self.assertIn(found, every)
            else:
                self.assertIs(type(fast), list)
                self.assertIn(fast, bars)
            self.same(list(turns(lots)), every)
        self.assertGreater(min(told), 20)

    def test_judged_against_all(self):
        told = [[0, 0], [0, 0]]
        for lots in drawn_lots(364, 40):
            every, bars = turns_by_hand(lots), stuck_by_hand(lots)
            for many in range(5):
                for row in itertools.product("abc", repeat=many):
                    told[0][list(row) in every] += 1
                    told[1][list(row) in bars] += 1
                    for value in (row, list(row)):
                        self.assertIs(is_safe_turn(lots, value), list(row) in every)
                        self.assertIs(is_stuck(lots, value), list(row) in bars)
        self.assertGreater(min(told[0] + told[1]), 20)

    def test_choosing_in_turn(self):
        # Whatever the houses ahead choose, each one of a safe turn can choose what it wants.
        for lots in drawn_lots(365, 25):
            for turn in turns(lots):
                for taken in takings_by_hand(lots, turn[:-1]):
                    self.assertGreaterEqual(left_by_hand(lots, turn[-1], taken), lots[turn[-1]][2])


class Turns(Case):
    def test_example(self):
        self.same(list(turns(three())), [["x", "y", "z"], ["y", "x", "z"]])
        self.same([stuck(three()), is_safe_turn(three(), safe_turn(three()))], [None, True])

    def test_is_a_generator(self):
        found = turns(lots=three())
        self.assertIs(iter(found), found)
        first = next(found)
        self.same(first, ["x", "y", "z"])
        first.clear()
        self.same([next(found), next(found, None)], [["y", "x", "z"], None])
        self.same(list(turns(three())), [["x", "y", "z"], ["y", "x", "z"]])

    def test_two_iterations_at_once(self):
        lots = Lots([(house, list("fghk"), 1) for house in "abc"])
        every = [list(row) for row in itertools.permutations("abc")]
        self.same([(one, other) for one in turns(lots) for other in turns(lots)],
                  [(one, other) for one in every for other in every])
        self.same(list(zip(turns(lots), turns(lots))), list(zip(every, every)))

    def test_without_any(self):
        lots = Lots([("x", ["f"], 1), ("y", ["f"], 1)])
        self.same([list(turns(lots)), safe_turn(lots), stuck(lots)], [[], None, ["x", "y"]])
        short = Lots([("x", ["f", "g"], 3), ("y", ["h"], 1)])
        self.same([list(turns(short)), safe_turn(short), stuck(short)], [[], None, ["x"]])
        self.same([is_stuck(short, ["x"]), is_stuck(short, ["x", "y"]), is_stuck(short, ["y"])], [True, False, False])

    def test_one_house(self):
        lots = Lots([("x", ["f"], 1)])
        self.same([list(turns(lots)), safe_turn(lots), stuck(lots)], [[["x"]], ["x"], None])

    def test_six_houses(self):
        lots = Lots(eight()[:6])
        self.same(list(turns(lots)), [list(row) for row in itertools.permutations("abcdef")])
        same = Lots([(house, list("fghklm"), 1) for house in "abcdef"])
        self.same(len(list(turns(same))), 720)
        tight = Lots([(house, list("fghklm")[:at + 1], 1) for at, house in enumerate("abcdef")])
        self.same(list(turns(tight)), [list("abcdef")])

    def test_seven_houses(self):
        for many in (7, 8):
            lots = Lots(eight()[:many])
            self.raised(TooMany, lambda: next(turns(lots)), what="houses", limit=6)
            self.raised(TooMany, lambda: list(turns(lots)), what="houses", limit=6)
            self.same([sorted(safe_turn(lots)), stuck(lots)], [list("abcdefgh")[:many], None])
            self.assertIs(is_safe_turn(lots, safe_turn(lots)), True)
        tight = Lots([(house, list("fghklmno")[:at + 1], 1) for at, house in enumerate("abcdefgh")])
        self.same([safe_turn(tight), stuck(tight)], [list("abcdefgh"), None])
        short = Lots([(house, list("fghklmn"), 1) for house in "abcdefgh"])
        self.same([safe_turn(short), stuck(short)], [None, list("abcdefgh")])
        self.assertIs(is_stuck(short, list("abcdefgh")), True)
        self.assertIs(is_stuck(short, list("abcdefg")), False)

    def test_houses_that_want_nothing(self):
        lots = Lots([("x", ["f"], 0), ("y", ["f"], 0), ("z", ["f"], 1)])
        self.same(len(list(turns(lots))), 6)
        self.same(is_sure(lots, "z", ["x", "y"]), True)


class Judged(Case):
    def test_turns_of_any_kind(self):
        lots = three()
        self.same([is_safe_turn(lots, value) for value in (["x", "y", "z"], ("y", "x", "z"))], [True, True])
        for value in ODD_VALUES + [["x", "z", "y"], ["x", "y"], ["x", "y", "z", "z"], ["x", "y", "z", "w"], "xyz",
                                   ["x", "x", "y", "z"], {"x": 1, "y": 1, "z": 1}, {"x", "y", "z"}, [["x", "y", "z"]],
                                   ["x", "y", None], ["x", "y", ["z"]], ["X", "y", "z"], [], Anything(), lots]:
            self.assertIs(is_safe_turn(lots, value), False)
            for row in (["x", "y", value], [value, "y", "z"], ("x", "y", "z", value)):
                self.assertIs(is_safe_turn(lots, row), False)

    def test_stuck_lists_of_any_kind(self):
        lots = Lots([("x", ["f"], 1), ("y", ["f"], 1), ("z", ["g"], 1)])
        self.same([is_stuck(lots, value) for value in (["x", "y"], ("x", "y"))], [True, True])
        for value in ODD_VALUES + [["y", "x"], ["x", "x"], ["x"], ["x", "y", "z"], ["x", "y", "y"], ["x", "y", "w"],
                                   "xy",
                                   {"x": 1, "y": 1}, {"x", "y"}, [["x", "y"]], ["x", None], [], Anything(), lots]:
            self.assertIs(is_stuck(lots, value), False)
            for row in (["x", value], [value, "y"], ("x", "y", value)):
                self.assertIs(is_stuck(lots, row), False)

    def test_by_name_and_new(self):
        lots = three()
        self.same([is_safe_turn(value=["x", "y", "z"], lots=lots), is_stuck(value=["x"], lots=lots)], [True, False])
        safe_turn(lots=lots).clear()
        self.same([sorted(safe_turn(lots)), stuck(lots=lots)], [["x", "y", "z"], None])
        tight = Lots([("x", ["f"], 1), ("y", ["f"], 1)])
        stuck(tight).clear()
        self.same([stuck(tight), repr(lots)], [["x", "y"], repr(three())])
