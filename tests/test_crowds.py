"""[42] to [45]: crowds, chains and rosters, against all lots of the deals, gone through one by one."""

import copy
import itertools

from letdays.books import Book
from letdays.calendars import Calendar
from letdays.crowds import (Screens, at_most_paper, greatest_crowd, heights, is_at_most_paper, is_chain, is_crowd,
                            is_roster, layers, least_roster, longest_chain, most_at_once)
from letdays.errors import InvalidDates, InvalidNames, InvalidNumber, UnknownDeal
from tests.support import Anything, Case, ODD_VALUES, ahead_by_hand, chains_by_hand, crowds_by_hand, deal, keeps
from tests.support import lots_of, odd_but, open_books, point_day, small_books, wrong_dates, wrong_names


def partings(names):
    """All ways to put the names into lots that are not empty."""
    if not names:
        return [[]]
    found = []
    for rest in partings(names[1:]):
        found.append([[names[0]]] + rest)
        for at in range(len(rest)):
            found.append(rest[:at] + [[names[0]] + rest[at]] + rest[at + 1:])
    return found


def fewest(names, lots):
    """How many of these lots at least have each of the names in just one of them."""
    told = [sorted(lot) for lot in lots]
    return min(len(parting) for parting in partings(names) if all(sorted(lot) in told for lot in parting))


def is_roster_by_hand(names, ahead, value):
    if not all(len(chain) > 0 and all(pair in ahead for pair in zip(chain, chain[1:])) for chain in value):
        return False
    return sorted(name for chain in value for name in chain) == sorted(names)


def is_on_by_hand(book, name, dates, day):
    return point_day(dates, book[name].begin) <= day <= point_day(dates, book[name].end)


def shapes_of(lot):
    return [lot, tuple(lot), lot[::-1], tuple(lot[1:] + lot[:1])]


def line():
    """The book of the document's example."""
    calendar = Calendar(["m", "n"], [("day", "m", -10), ("m", "n", -30)])
    return Book(calendar, [deal("a", ("m", 0), ("m", 24)), deal("b", ("n", 0), ("n", 9)),
                           deal("c", ("day", 0), ("n", -25))])


def one_day(count):
    """So many deals on one day."""
    return Book(Calendar([], []), [deal(name, ("day", 0), ("day", 0)) for name in "abcdefghij"[:count]])


def row_of(count):
    """So many deals, one behind another, the last name first."""
    names = "jihgfedcba"[:count]
    return Book(Calendar([], []), [deal(name, ("day", at), ("day", at)) for at, name in enumerate(names)])


class AgainstAllLots(Case):
    def test_crowds(self):
        told = [0, 0, 0, 0]
        for book in [book for book, _ in small_books(101, 20)] + open_books(102, 30, names="abcde"):
            ahead = ahead_by_hand(book)
            for lot in lots_of(book.names()):
                crowds = crowds_by_hand(lot, ahead)
                most = max((len(crowd) for crowd in crowds), default=0)
                told[min(most, 3)] += 1
                for names in shapes_of(lot):
                    crowd = greatest_crowd(book, names)
                    self.assertIs(type(crowd), list)
                    self.assertTrue(crowd in crowds or crowd == lot == [])
                    self.same([len(crowd), most_at_once(book, names)], [most, most])
        self.assertGreater(min(told), 20)

    def test_rosters(self):
        for book in [book for book, _ in small_books(103, 20)] + open_books(104, 30, names="abcde"):
            ahead = ahead_by_hand(book)
            for lot in lots_of(book.names()):
                chains = chains_by_hand(lot, ahead)
                for names in shapes_of(lot):
                    roster = least_roster(book, names)
                    self.same([type(roster), [type(chain) for chain in roster]], [list, [list] * len(roster)])
                    self.assertTrue(is_roster_by_hand(lot, ahead, roster))
                    self.assertIs(is_roster(book, names, roster), True)
                    self.same(len(roster), fewest(lot, chains))
                    # As many chains as the greatest crowd has deals.
                    self.same(len(roster), most_at_once(book, names))

    def test_heights_and_longest_chains(self):
        tallest = 0
        for book in [book for book, _ in small_books(105, 20)] + open_books(106, 30, names="abcde"):
            ahead = ahead_by_hand(book)
            for lot in lots_of(book.names()):
                chains = chains_by_hand(lot, ahead)
                table = {name: max(len(chain) for chain in chains if chain[-1] == name) for name in lot}
                most = max(table.values(), default=0)
                tallest = max(tallest, most)
                expected = [[name for name in lot if table[name] == height] for height in range(1, most + 1)]
                for names in shapes_of(lot):
                    self.same(heights(book, names), table)
                    self.same(layers(book, names), expected)
                    chain = longest_chain(book, names)
                    self.same([type(chain), len(chain)], [list, most])
                    self.assertTrue(chain in chains or chain == lot == [])
                self.same(most, fewest(lot, crowds_by_hand(lot, ahead)))
                self.assertTrue(all(is_crowd(book, layer) for layer in layers(book, lot)))
        self.assertGreater(tallest, 3)

    def test_judges(self):
        for book in [book for book, _ in small_books(107, 8)] + open_books(108, 12):
            ahead = ahead_by_hand(book)
            crowds, chains = crowds_by_hand(book.names(), ahead), chains_by_hand(book.names(), ahead)
            for many in range(5):
                for row in itertools.permutations(book.names(), many):
                    for value in (list(row), row):
                        self.assertIs(is_crowd(book, value), list(row) in crowds)
                        self.assertIs(is_chain(book, value), list(row) in chains)

    def test_is_roster(self):
        told = [0, 0]
        for book in [book for book, _ in small_books(109, 8)] + open_books(110, 12):
            ahead = ahead_by_hand(book)
            for lot in lots_of(book.names()):
                for parting in partings(lot):
                    for value in ([lot[::-1] for lot in parting], [tuple(lot) for lot in parting], tuple(parting)):
                        expected = is_roster_by_hand(lot, ahead, value)
                        told[expected] += 1
                        self.assertIs(is_roster(book, lot, value), expected)
                        self.assertIs(is_roster(book, book.names(), value), expected and lot == book.names())
        self.assertGreater(min(told), 100)

    def test_at_most_papers(self):
        for book in [book for book, _ in small_books(111, 20)] + open_books(112, 30, names="abcde"):
            ahead = ahead_by_hand(book)
            for lot in lots_of(book.names()):
                for names in shapes_of(lot):
                    paper = at_most_paper(book, names)
                    self.check_paper(book, lot, ahead, paper)
                    self.assertIs(is_at_most_paper(book, names, paper), True)

    def check_paper(self, book, lot, ahead, paper):
        self.same([type(paper), len(paper)], [tuple, 4])
        crowd, dates, day, roster = paper
        if not lot:
            self.same(paper, ([], None, None, []))
            return
        self.same([type(crowd), type(dates), type(day), type(roster)], [list, dict, int, list])
        self.assertIn(crowd, crowds_by_hand(lot, ahead))
        self.same(list(dates), book.calendar.moments())
        self.assertTrue(keeps(dates, book.clauses()))
        self.assertTrue(all(is_on_by_hand(book, name, dates, day) for name in crowd))
        self.assertTrue(is_roster_by_hand(lot, ahead, roster))
        self.same(len(roster), len(crowd))


class Many(Case):
    def test_ten_on_one_day(self):
        book = one_day(10)
        names = book.names()
        self.same([greatest_crowd(book, names), most_at_once(book, names)], [names, 10])
        self.same([sorted(least_roster(book, names)), layers(book, names)], [[[name] for name in names], [names]])
        self.same([heights(book, names), len(longest_chain(book, names))], [{name: 1 for name in names}, 1])
        self.same(len(Screens(book, names)), 10)
        self.same(sorted(Screens(book, names).shown({}, 0)), names)
        self.same(Screens(book, names).shown({}, 1), [None] * 10)

    def test_ten_one_behind_another(self):
        book = row_of(10)
        names = book.names()
        self.same([len(greatest_crowd(book, names)), most_at_once(book, names)], [1, 1])
        self.same([least_roster(book, names), longest_chain(book, names)], [[names[::-1]], names[::-1]])
        self.same(layers(book, names), [[name] for name in names[::-1]])
        self.same(heights(book, names), {name: 10 - at for at, name in enumerate(names)})
        self.same([Screens(book, names).shown({}, day) for day in (-1, 0, 3, 9, 10)],
                  [[None], ["j"], ["g"], ["a"], [None]])

    def test_no_names(self):
        for names in ([], ()):
            self.same([greatest_crowd(line(), names), least_roster(line(), names), most_at_once(line(), names)],
                      [[], [], 0])
            self.same([heights(line(), names), layers(line(), names), longest_chain(line(), names)], [{}, [], []])
            self.same(at_most_paper(line(), names), ([], None, None, []))
            for value in (([], None, None, []), ((), None, None, ())):
                self.assertIs(is_at_most_paper(line(), names, value), True)
            for value in ([[], None, None, []], ([], {"m": 10, "n": 40}, 10, []), ([], None, 0, []), ([], {}, None, []),
                          (["a"], None, None, [["a"]]), ([], None, None, [[]]), ([], None, None), (None,) * 4):
                self.assertIs(is_at_most_paper(line(), names, value), False)
            self.same([is_roster(line(), names, []), is_roster(line(), names, ())], [True, True])
            self.same([is_roster(line(), names, [[]]), is_roster(line(), names, [["a"]])], [False, False])
            screens = Screens(line(), names)
            self.same([len(screens), screens.paper(), screens.shown({"m": 10, "n": 40}, 12)],
                      [0, ([], None, None, []), []])
            self.raised(UnknownDeal, lambda: screens.screen_of("a"), value="a")
            self.raised(InvalidNumber, lambda: screens[0], value=0)
            self.assertIs("a" in screens, False)

    def test_a_chain_may_have_to_give_way(self):
        # Beginning with a row from a to b leaves c and d alone: two chains are enough only without it.
        book = Book(Calendar([], []), [deal("a", ("day", 0), ("day", 0)), deal("b", ("day", 1), ("day", 5)),
                                       deal("c", ("day", 0), ("day", 2)), deal("d", ("day", 3), ("day", 5))])
        self.same([sorted(least_roster(book, list("abcd"))), most_at_once(book, list("abcd"))],
                  [[["a", "b"], ["c", "d"]], 2])


class Judged(Case):
    def test_crowds_of_any_kind(self):
        for value in (["a", "c"], ("a", "c"), ["a"], ["b"]):
            self.assertIs(is_crowd(line(), value), True)
        for value in (["c", "a"], ["a", "b"], ["a", "a"], ["a", "c", "c"], ["a", "z"], [], (), "a", "ac", {"a": 1},
                      None,
                      ["a", None], ["a", ["c"]], [True], [0], ["A"], ["day"], [""], [b"a"], {"a", "c"}, [("a", "c")]):
            self.assertIs(is_crowd(line(), value), False, value)

    def test_chains_of_any_kind(self):
        for value in (["a", "b"], ("c", "b"), ["a"], ("c",)):
            self.assertIs(is_chain(line(), value), True)
        for value in (["b", "a"], ["a", "c"], ["a", "a"], ["a", "b", "b"], ["a", "z"], [], (), "a", "ab", {"a": 1},
                      None,
                      ["a", None], ["a", ["b"]], [True], [0], ["A"], ["day"], [""], [b"a"], {"a", "b"}, [("a", "b")]):
            self.assertIs(is_chain(line(), value), False, value)

    def test_rosters_of_any_kind(self):
        names = ["a", "b", "c"]
        for value in ([["a", "b"], ["c"]], [["c"], ["a", "b"]], (("a", "b"), ("c",)), [["c", "b"], ("a",)],
                      [["a"], ["b"], ["c"]]):
            self.assertIs(is_roster(line(), names, value), True)
        for value in ([["a", "b"]], [["a", "b"], ["c"], []], [["a", "b"], ["c"], ["c"]], [["a", "b"], ["c", "b"]],
                      [["b", "a"], ["c"]], [["a", "c"], ["b"]], [["a", "b"], "c"], [["a", "b"], ["z"]], ["a", "b", "c"],
                      "abc", [["a", "b"], None], [["a", "b"], ["c", None]], {"a": ["a", "b"], "c": ["c"]}, [],
                      [["a", "b"], [["c"]]], [["a", "b"], {"c"}], None):
            self.assertIs(is_roster(line(), names, value), False, value)
        self.assertIs(is_roster(line(), ["a", "b"], [["a", "b"], ["c"]]), False)
        self.assertIs(is_roster(line(), ("b", "a"), [["a", "b"]]), True)

    def test_odd_values(self):
        for value in ODD_VALUES:
            if value not in (["a"], ("a",)):
                self.assertIs(is_crowd(line(), value), False)
                self.assertIs(is_chain(line(), value), False)
                self.assertIs(is_roster(line(), ["a", "b"], [value, ["b"]]), False)
                self.assertIs(is_at_most_paper(line(), ["a"], (value, {"m": 10, "n": 40}, 10, [["a"]])), False)
            self.assertIs(is_crowd(line(), ["a", value]), False)
            self.assertIs(is_chain(line(), ["a", value]), False)
            self.assertIs(is_roster(line(), ["a"], value), False)
            self.assertIs(is_roster(line(), ["a", "b"], [["a", value]]), False)
            self.assertIs(is_at_most_paper(line(), ["a"], value), False)
            self.assertIs(is_at_most_paper(line(), [], value), False)
            self.assertIs(is_at_most_paper(line(), ["a"], (["a"], value, 10, [["a"]])), False)
            self.assertIs(is_at_most_paper(line(), ["a"], (["a"], {"m": 10, "n": 40}, value, [["a"]])), False)
            self.assertIs(is_at_most_paper(line(), ["a"], (["a"], {"m": 10, "n": 40}, 10, value)), False)
            self.assertIs(is_at_most_paper(line(), ["a"], (["a"], {"m": 10, "n": value}, 10, [["a"]])),
                          value == 10 ** 29)

    def test_at_most_papers_spoilt(self):
        names, dates = ["a", "b", "c"], {"m": 10, "n": 40}
        crowd, roster = ["a", "c"], [["a", "b"], ["c"]]
        for value in ((crowd, dates, 12, roster), (("a", "c"), dates, 10, (("a", "b"), ("c",))),
                      (crowd, {"m": 12, "n": 60}, 35, [["c", "b"], ["a"]])):
            self.assertIs(is_at_most_paper(line(), names, value), True)
        for value in ([crowd, dates, 12, roster], (crowd, dates, 12), (crowd, dates, 12, roster, 0),
                      (["c", "a"], dates, 12, roster), (["a"], dates, 12, roster), (["a", "b"], dates, 12, roster),
                      (["a", "z"], dates, 12, roster), ([], dates, 12, roster), ([], None, None, roster),
                      (crowd, {"m": 9, "n": 40}, 12, roster), (crowd, {"m": 10}, 12, roster), (crowd, None, 12, roster),
                      (crowd, dates, 9, roster), (crowd, dates, 16, roster), (crowd, dates, None, roster),
                      (crowd, dates, "12", roster), (crowd, None, None, roster),
                      (crowd, {"m": 11, "n": 41}, 10, roster),
                      (crowd, dates, 12, [["a"], ["b"], ["c"]]), (crowd, dates, 12, [["a", "b"]]),
                      (crowd, dates, 12, [["b", "a"], ["c"]]), (crowd, dates, 12, [["a", "b"], []]),
                      (crowd, dates, 12, None), (crowd, 12, dates, roster), ([], None, None, [])):
            self.assertIs(is_at_most_paper(line(), names, value), False, value)
        # A crowd and a roster of other deals than those asked for.
        self.assertIs(is_at_most_paper(line(), ["a", "b"], (["c"], dates, 12, [["a", "b"]])), False)
        self.assertIs(is_at_most_paper(line(), ["a", "b"], (["a"], dates, 12, [["c", "b"]])), False)
        self.assertIs(is_at_most_paper(line(), ["a", "b"], (["a"], dates, 12, [["a", "b"]])), True)
        self.assertIs(is_at_most_paper(line(), ["a", "b"], (["b"], dates, 45, [["a", "b"]])), True)

    def test_true_is_not_one(self):
        book = Book(Calendar(["m"], []), [deal("a", ("m", 0), ("m", 2))])
        self.assertIs(is_at_most_paper(book, ["a"], (["a"], {"m": 1}, 1, [["a"]])), True)
        self.assertIs(is_at_most_paper(book, ["a"], (["a"], {"m": 1}, True, [["a"]])), False)
        self.assertIs(is_at_most_paper(book, ["a"], (["a"], {"m": True}, 1, [["a"]])), False)

    def test_returned_values_are_new(self):
        book, names = line(), ["c", "b", "a"]
        for call in (greatest_crowd, least_roster, layers, longest_chain):
            first = call(book, names)
            again = call(book, names)
            self.same(again, first)
            if isinstance(first[0], list):
                first[0].append("x")
            first.append("x")
            self.same(call(book, names), again)
        heights(book, names).clear()
        self.same(heights(book, names), {"a": 1, "b": 2, "c": 1})
        paper = at_most_paper(book, names)
        paper[0].clear(), paper[1].clear(), paper[3][0].clear(), paper[3].clear()
        self.assertIs(is_at_most_paper(book, names, at_most_paper(book, names)), True)
        self.same(names, ["c", "b", "a"])

    def test_by_name(self):
        book, names = line(), ["a", "b", "c"]
        self.same([is_crowd(value=["a"], book=book), is_chain(value=["a"], book=book)], [True, True])
        self.same(is_roster(value=[["a"]], names=["a"], book=book), True)
        self.same([greatest_crowd(names=names, book=book), most_at_once(names=names, book=book)], [["a", "c"], 2])
        self.same(len(least_roster(names=names, book=book)), 2)
        self.same(heights(names=names, book=book), {"a": 1, "b": 2, "c": 1})
        self.same(layers(names=names, book=book), [["a", "c"], ["b"]])
        self.same(len(longest_chain(names=names, book=book)), 2)
        self.same(is_at_most_paper(value=at_most_paper(names=names, book=book), names=names, book=book), True)
        screens = Screens(names=names, book=book)
        self.same(screens.screen_of(name="a"), screens.screen_of("a"))
        self.same(screens.shown(day=0, dates={"m": 10, "n": 40}), screens.shown({"m": 10, "n": 40}, 0))


class ScreensOfABook(Case):
    def test_against_the_functions(self):
        for book in [book for book, _ in small_books(113, 15)] + open_books(114, 20):
            ahead = ahead_by_hand(book)
            for lot in lots_of(book.names()):
                screens = Screens(book, tuple(lot[::-1]))
                self.assertIs(screens.book, book)
                paper = screens.paper()
                self.assertIs(is_at_most_paper(book, lot, paper), True)
                self.same([len(screens), len(paper[3])], [most_at_once(book, lot)] * 2)
                self.same([screens[at] for at in range(len(screens))], paper[3])
                self.assertTrue(is_roster_by_hand(lot, ahead, paper[3]))
                for name in book.names():
                    self.assertIs(name in screens, name in lot)
                    if name in lot:
                        self.assertIn(name, screens[screens.screen_of(name)])
                    else:
                        self.raised(UnknownDeal, lambda: screens.screen_of(name), value=name)

    def test_shown(self):
        told = [0, 0]
        for book, every in small_books(115, 30):
            for lot in lots_of(book.names())[::3]:
                screens = Screens(book, lot)
                for dates in every[::5]:
                    for day in range(-4, 11):
                        shown = screens.shown(dates, day)
                        self.same([type(shown), len(shown)], [list, len(screens)])
                        on = [name for name in lot if is_on_by_hand(book, name, dates, day)]
                        self.same(sorted(name for name in shown if name is not None), on)
                        self.assertTrue(all(name is None or name in screens[at] for at, name in enumerate(shown)))
                        told[len(on) > 1] += 1
        self.assertGreater(min(told), 200)

    def test_item_for_any_value(self):
        screens = Screens(line(), ["a", "b", "c"])
        for value in odd_but(int) + [10 ** 29, -1, -2, 2, 3, "a", (0,)]:
            self.raised(InvalidNumber, lambda: screens[value], value=value)
        screens[0].append("x")
        self.same(sorted(screens[0] + screens[1]), ["a", "b", "c"])

    def test_slices_are_no_positions(self):
        screens = Screens(line(), ["a", "b", "c"])
        self.raised(InvalidNumber, lambda: screens[0:1], value=slice(0, 1))
        self.raised(InvalidNumber, lambda: screens[True], value=True)
        self.raised(InvalidNumber, lambda: screens[False], value=False)

    def test_in_for_any_value(self):
        screens = Screens(line(), ["a", "b"])
        self.same([value in screens for value in ("a", "b", "c", "z")], [True, True, False, False])
        for value in ODD_VALUES + [["a"], ("a", "b"), [["a", "b"]], line()["a"]]:
            if value != "a":
                self.assertIs(value in screens, False)

    def test_a_value_that_is_equal_to_any(self):
        screens, any_value = Screens(line(), ["a", "b"]), Anything()
        self.assertIs(any_value in screens, False)
        with self.assertRaises(UnknownDeal):
            screens.screen_of(any_value)
        for judge in (is_crowd, is_chain):
            self.same([judge(line(), any_value), judge(line(), [any_value])], [False, False])
        self.same([is_roster(line(), ["a"], any_value), is_roster(line(), ["a"], [[any_value]])], [False, False])
        self.assertIs(is_at_most_paper(line(), [], ([], any_value, any_value, [])), False)

    def test_screen_of_any_value(self):
        screens = Screens(line(), ["a", "b"])
        for value in ODD_VALUES + ["c", "z", ["a"], ("a",)]:
            if value != "a":
                self.raised(UnknownDeal, lambda: screens.screen_of(value), value=value)

    def test_not_iterated_over(self):
        with self.assertRaises(TypeError):
            list(Screens(line(), ["a"]))

    def test_never_changes(self):
        names = ["a", "b", "c"]
        screens = Screens(line(), names)
        told = copy.deepcopy(screens.paper())
        names.clear()
        other = screens.paper()
        other[0].clear(), other[1].clear(), other[3][0].clear(), other[3].clear()
        self.same(screens.paper(), told)
        self.same([len(screens), sorted(screens[0] + screens[1])], [2, ["a", "b", "c"]])
        screens.shown({"m": 10, "n": 40}, 12).clear()
        self.same(len(screens.shown({"m": 10, "n": 40}, 12)), 2)
        with self.assertRaises(AttributeError):
            screens.book = line()

    def test_shown_errors(self):
        screens = Screens(line(), ["a", "b"])
        right = {"m": 10, "n": 40}
        for value in wrong_dates(line()) + [{"m": 9, "n": 40}, {"m": 11, "n": 40}]:
            self.raised(InvalidDates, lambda: screens.shown(value, 0), value=value)
            self.raised(InvalidDates, lambda: screens.shown(value, None), value=value)
        for value in odd_but(int):
            self.raised(InvalidNumber, lambda: screens.shown(right, value), value=value)
        self.raised(InvalidDates, lambda: Screens(line(), []).shown({}, "x"), value={})
        self.raised(InvalidNumber, lambda: Screens(line(), []).shown(right, "x"), value="x")


class Wrong(Case):
    CALLS = (greatest_crowd, least_roster, most_at_once, heights, layers, longest_chain, at_most_paper, Screens,
             lambda book, names: is_roster(book, names, None), lambda book, names: is_at_most_paper(book, names, None))

    def test_names(self):
        for call in self.CALLS:
            for value, position in wrong_names(["a", "b"]):
                self.raised(InvalidNames, lambda: call(line(), value), position=position)
            self.raised(InvalidNames, lambda: call(line(), ["c", "d", "c"]), position=1)
