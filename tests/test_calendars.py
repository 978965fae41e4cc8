"""[11], [12] and [15]: the class Calendar, but for rows and rings."""

from letdays.calendars import Calendar
from letdays.errors import (InvalidCalendar, InvalidClauses, InvalidMoment, InvalidMoments, InvalidNumber,
                            TooMany)
from tests.support import Case, ODD_VALUES, odd_but

LETTERS = list("abcdefgh")
PLAN = [("a", "b", -20), ("b", "day", 100), ("day", "a", 0), ("a", "day", 90)]


def plan():
    return Calendar(["b", "a"], PLAN)


def forty():
    """Forty different clauses of one moment."""
    return [("a", "day", number) for number in range(20)] + [("day", "a", number) for number in range(20)]


class Making(Case):
    def test_moments_are_sorted(self):
        self.same(Calendar(["m", "b", "zz", "a"]).moments(), ["a", "b", "m", "zz"])
        self.same(Calendar(("b", "a")).moments(), ["a", "b"])
        self.same(Calendar([]).moments(), [])

    def test_clauses_stay_in_their_sequence(self):
        self.same(plan().clauses(), PLAN)
        self.same(Calendar(["a", "b"], PLAN[::-1]).clauses(), PLAN[::-1])
        self.same(Calendar(["a", "b"], tuple(PLAN)).clauses(), PLAN)
        self.same(Calendar(["a"]).clauses(), [])
        self.same(Calendar(["a"], ()).clauses(), [])

    def test_by_name(self):
        self.assertEqual(Calendar(clauses=PLAN, moments=["a", "b"]), plan())
        self.assertEqual(Calendar(moments=["a"]), Calendar(["a"], []))

    def test_class_values(self):
        self.same([Calendar.MOST_MOMENTS, Calendar.MOST_CLAUSES, Calendar.ZERO], [8, 40, "day"])
        self.same([plan().MOST_MOMENTS, plan().MOST_CLAUSES, plan().ZERO], [8, 40, "day"])

    def test_clauses_that_contradict_each_other_are_let(self):
        clauses = [("a", "day", -1), ("day", "a", -1), ("a", "day", 3), ("a", "day", 4)]
        self.same(Calendar(["a"], clauses).clauses(), clauses)

    def test_names_of_one_and_six_letters(self):
        self.same(Calendar(["a", "abcdef", "days", "da", "zzzzzz"]).moments(), ["a", "abcdef", "da", "days", "zzzzzz"])

    def test_thirty_digits(self):
        clauses = [("a", "day", 10 ** 30 - 1), ("day", "a", -(10 ** 30 - 1))]
        calendar = Calendar(["a"], clauses)
        self.same(calendar.clauses(), clauses)
        self.assertTrue({"a": 10 ** 30 - 1} in calendar)
        self.assertFalse({"a": 10 ** 30 - 2} in calendar)
        self.assertFalse({"a": 10 ** 30} in calendar)


class Limits(Case):
    def test_eight_moments_are_let(self):
        self.same(Calendar(LETTERS[::-1]).moments(), LETTERS)

    def test_nine_moments_are_not(self):
        self.raised(TooMany, lambda: Calendar(LETTERS + ["i"]), what="moments", limit=8)

    def test_forty_clauses_are_let(self):
        self.assertEqual(len(Calendar(["a"], forty())), 40)

    def test_forty_one_clauses_are_not(self):
        self.raised(TooMany, lambda: Calendar(["a"], forty() + [("a", "day", 20)]), what="clauses", limit=40)

    def test_moments_ahead_of_clauses(self):
        many = forty() + [("a", "day", 20)]
        self.raised(TooMany, lambda: Calendar(LETTERS + ["i"], many), what="moments", limit=8)

    def test_far_beyond_the_limits(self):
        names = [one + other for one in LETTERS for other in LETTERS]
        self.raised(TooMany, lambda: Calendar(names), what="moments", limit=8)
        many = [("a", "day", number) for number in range(1500)]
        self.raised(TooMany, lambda: Calendar(["a"], many), what="clauses", limit=40)


class WrongMoments(Case):
    def test_no_list(self):
        for value in odd_but(list, tuple):
            self.raised(InvalidMoments, lambda value=value: Calendar(value), position=None)

    def test_elements_of_any_kind(self):
        for value in ODD_VALUES:
            if value != "a":
                self.raised(InvalidMoments, lambda value=value: Calendar(["b", value]), position=1)
                self.raised(InvalidMoments, lambda value=value: Calendar((value,)), position=0)

    def test_names(self):
        for value in ("", "day", "A", "aB", "a1", "a_b", " a", "a ", "a\n", "abcdefg", "a" * 20000, "-", "Day"):
            self.raised(InvalidMoments, lambda value=value: Calendar(["x", "y", value]), position=2)

    def test_twice(self):
        self.raised(InvalidMoments, lambda: Calendar(["a", "b", "a", "b"]), position=2)
        self.raised(InvalidMoments, lambda: Calendar(["a", "a"]), position=1)

    def test_the_first_one_decides(self):
        self.raised(InvalidMoments, lambda: Calendar(["a", "a", "day"]), position=1)
        self.raised(InvalidMoments, lambda: Calendar(["a", "day", "a"]), position=1)
        self.raised(InvalidMoments, lambda: Calendar(LETTERS + ["i", 3]), position=9)

    def test_ahead_of_clauses(self):
        self.raised(InvalidMoments, lambda: Calendar(["a", 1], None), position=1)
        self.raised(InvalidMoments, lambda: Calendar(None, [None]), position=None)


class WrongClauses(Case):
    def test_no_list(self):
        for value in odd_but(list, tuple):
            self.raised(InvalidClauses, lambda value=value: Calendar(["a"], value), position=None)

    def test_elements_of_any_kind(self):
        for value in ODD_VALUES:
            if value != ("a", "b", 1):
                self.raised(InvalidClauses, lambda value=value: Calendar(["a", "b"], [PLAN[0], value]), position=1)

    def test_what_is_no_clause(self):
        for value in (("a", "b"), ("a", "b", 1, 2), ["a", "b", 1], ("a", "a", 1), ("day", "day", 0), ("a", "b", True),
                      ("a", "b", False), ("a", "b", None), ("a", "b", "1"), ("a", "c", 1), ("c", "a", 1), ("a", 1, 1),
                      (None, "b", 1), (True, "b", 1), ("a", ["b"], 1), ({}, "b", 1), ("A", "b", 1), "ab1",
                      ("a", "b", [1])):
            self.raised(InvalidClauses, lambda value=value: Calendar(["a", "b"], (value,)), position=0)

    def test_moments_of_the_calendar_only(self):
        self.raised(InvalidClauses, lambda: Calendar([], [("a", "day", 1)]), position=0)
        self.raised(InvalidClauses, lambda: Calendar(["a"], [("a", "day", 1), ("day", "b", 1)]), position=1)

    def test_twice(self):
        self.raised(InvalidClauses, lambda: Calendar(["a", "b"], PLAN + [PLAN[1]]), position=4)
        self.raised(InvalidClauses, lambda: Calendar(["a", "b"], [PLAN[0], PLAN[0], None]), position=1)

    def test_the_first_one_decides(self):
        self.raised(InvalidClauses, lambda: Calendar(["a", "b"], PLAN + [None, PLAN[0]]), position=4)

    def test_ahead_of_too_many(self):
        self.raised(InvalidClauses, lambda: Calendar(LETTERS + ["i"], [None]), position=0)
        self.raised(InvalidClauses, lambda: Calendar(["a"], forty() + [("a", "day", 20), ("a", "day", 0)]), position=41)


class Looking(Case):
    def test_len_is_the_number_of_clauses(self):
        self.same([len(plan()), len(Calendar(["a", "b"])), len(Calendar([]))], [4, 0, 0])

    def test_iteration(self):
        calendar = plan()
        self.same(list(calendar), PLAN)
        self.same([(one, other) for one in calendar for other in calendar],
                  [(one, other) for one in PLAN for other in PLAN])

    def test_in(self):
        calendar = plan()
        for dates in ({"a": 0, "b": 20}, {"b": 100, "a": 80}, {"a": 0, "b": 100}, {"a": 50, "b": 70}):
            self.assertIs(dates in calendar, True)
        for dates in ({"a": -1, "b": 20}, {"a": 0, "b": 19}, {"a": 81, "b": 101}, {"a": 0, "b": 101}):
            self.assertIs(dates in calendar, False)

    def test_in_a_calendar_without_clauses(self):
        self.assertTrue({"a": -7} in Calendar(["a"]))
        self.assertTrue({} in Calendar([]))
        self.assertFalse({} in Calendar(["a"]))
        self.assertFalse({"a": 0} in Calendar([]))

    def test_in_has_just_the_moments(self):
        calendar = Calendar(["a", "b"])
        self.assertTrue({"a": 1, "b": 2} in calendar)
        for value in ({"a": 1}, {"b": 1}, {"a": 1, "c": 2}, {"a": 1, "b": 2, "c": 3}, {"a": 1, "b": 2, "day": 0},
                      {"a": 1, "day": 0}, {1: 1, 2: 2}, {"a": 1, None: 2}, {"a": 1, ("b",): 2}):
            self.assertIs(value in calendar, False)

    def test_in_takes_days_only(self):
        calendar = Calendar(["a"])
        for value in ODD_VALUES:
            self.assertIs({"a": value} in calendar, isinstance(value, int) and not isinstance(value, bool))

    def test_in_for_any_value(self):
        for value in ODD_VALUES:
            self.assertIs(value in Calendar(["a"]), value == {"a": 1} and value["a"] is not True)
            self.assertIs(value in plan(), False)
        self.assertIs([("a", 1)] in Calendar(["a"]), False)
        self.assertIs(Calendar(["a"]) in Calendar(["a"]), False)

    def test_clauses_in_both_directions(self):
        self.assertTrue({"a": 3} in Calendar(["a"], [("a", "day", 3)]))
        self.assertFalse({"a": 4} in Calendar(["a"], [("a", "day", 3)]))
        self.assertTrue({"a": -3} in Calendar(["a"], [("day", "a", 3)]))
        self.assertFalse({"a": -4} in Calendar(["a"], [("day", "a", 3)]))
        self.assertTrue({"a": 2} in Calendar(["a"], [("day", "a", -2)]))
        self.assertFalse({"a": 1} in Calendar(["a"], [("day", "a", -2)]))

    def test_repr(self):
        self.same(repr(Calendar(["a"], [("a", "day", 3)])), "Calendar(['a'], [('a', 'day', 3)])")
        self.same(repr(Calendar([])), "Calendar([], [])")
        self.same(repr(Calendar(("b", "a"), (("b", "a", -1), ("a", "b", 2)))),
                  "Calendar(['a', 'b'], [('b', 'a', -1), ('a', 'b', 2)])")

    def test_equality(self):
        self.assertTrue(plan() == Calendar(["a", "b"], PLAN[::-1]))
        self.assertFalse(plan() != Calendar(("a", "b"), tuple(PLAN[2:] + PLAN[:2])))
        for other in (Calendar(["a", "b"], PLAN[:3]), Calendar(["a", "b", "c"], PLAN), Calendar(["a", "b"]),
                      Calendar(["a", "b"], PLAN[:3] + [("a", "day", 91)])):
            self.assertFalse(plan() == other)
            self.assertTrue(plan() != other)

    def test_alike_is_not_equal(self):
        self.assertFalse(Calendar(["a"], [("a", "day", 1)]) == Calendar(["a"], [("a", "day", 1), ("a", "day", 2)]))

    def test_not_equal_to_values_of_other_kinds(self):
        for value in ODD_VALUES + [(["a", "b"], PLAN), PLAN, repr(plan())]:
            self.assertIs(plan() == value, False)
            self.assertIs(plan() != value, True)
            self.assertIs(Calendar([]) == value, False)


class IsClause(Case):
    def test_clauses(self):
        for value in (("a", "b", 1), ("day", "a", 0), ("zzzzzz", "day", -5), ("x", "y", 10 ** 30 - 1)):
            self.assertIs(Calendar.is_clause(value), True)
            self.assertIs(plan().is_clause(value), True)

    def test_others(self):
        for value in (("a", "b", True), ("a", "b", False), ("a", "b", None), (True, "b", 1), ("a", None, 1), (0, 1, 2),
                      ("a", "a", 1), ("day", "day", 1), ["a", "b", 1], ("a", "b"), ("a", "b", 1, 1), ("a", "b", "1"),
                      ("a", "", 1), ("A", "b", 1), ("a", "abcdefg", 1), ("a", "b c", 1), (["a"], "b", 1), ("a", {}, 1),
                      ("a", b"b", 1), ("a", "b", (1,)), ("Day", "b", 1)):
            self.assertIs(Calendar.is_clause(value), False)

    def test_any_value(self):
        for value in ODD_VALUES:
            self.assertIs(Calendar.is_clause(value), value == ("a", "b", 1))
        self.assertIs(Calendar.is_clause(value=("a", "b", 1)), True)


class Copies(Case):
    def test_passed_lists(self):
        moments, clauses = ["b", "a"], list(PLAN)
        calendar = Calendar(moments, clauses)
        self.same((moments, clauses), (["b", "a"], PLAN))
        moments.append("c")
        clauses.pop()
        self.same((calendar.moments(), calendar.clauses()), (["a", "b"], PLAN))

    def test_returned_lists(self):
        calendar = plan()
        calendar.moments().append("c")
        calendar.clauses().clear()
        calendar.dates()["a"] = "x"
        self.same((calendar.moments(), calendar.clauses()), (["a", "b"], PLAN))
        self.assertTrue(calendar.dates() in calendar)
        ringed = Calendar(["a"], [("a", "day", -1), ("day", "a", 0)])
        ringed.ring().clear()
        self.assertTrue(ringed.is_ring(ringed.ring()))

    def test_changes_give_other_objects(self):
        calendar = plan()
        calendar.with_clause(("b", "a", 10))
        calendar.without(0)
        calendar.known("a", 7)
        joined = calendar | Calendar(["c"], [("c", "day", 1)])
        self.assertEqual(len(joined), 5)
        self.same((calendar.moments(), calendar.clauses()), (["a", "b"], PLAN))


class WithClause(Case):
    def test_it_stands_last(self):
        self.same(plan().with_clause(("b", "a", 10)).clauses(), PLAN + [("b", "a", 10)])
        self.same(plan().with_clause(clause=("a", "day", 5)).clauses(), PLAN + [("a", "day", 5)])
        self.same(plan().with_clause(("b", "a", 10)).moments(), ["a", "b"])

    def test_one_that_is_there(self):
        same = plan().with_clause(("b", "day", 100))
        self.assertEqual(same, plan())
        self.same(same.clauses(), PLAN)
        full = Calendar(["a"], forty())
        self.same(full.with_clause(("a", "day", 3)).clauses(), forty())

    def test_wrong(self):
        for value in ODD_VALUES + [["a", "b", 1], ("a", "b", True), ("a", "c", 1), ("b", "b", 1), [PLAN[0]]]:
            if value != ("a", "b", 1) or isinstance(value, list):
                self.raised(InvalidClauses, lambda value=value: plan().with_clause(value), position=None)

    def test_too_many(self):
        full = Calendar(["a"], forty())
        self.raised(TooMany, lambda: full.with_clause(("a", "day", 20)), what="clauses", limit=40)
        self.raised(InvalidClauses, lambda: full.with_clause(("a", "b", 20)), position=None)
        self.assertEqual(len(full.without(0).with_clause(("a", "day", 20))), 40)


class Without(Case):
    def test_each_position(self):
        for at in range(4):
            self.same(plan().without(at).clauses(), PLAN[:at] + PLAN[at + 1:])
        self.same(plan().without(position=0).moments(), ["a", "b"])

    def test_wrong(self):
        for value in (-1, 4, 5, True, False, None, "0", [0], 10 ** 29, -10 ** 29):
            self.raised(InvalidNumber, lambda value=value: plan().without(value), value=value)
        for value in odd_but(int):
            self.raised(InvalidNumber, lambda value=value: plan().without(value), value=value)
        self.raised(InvalidNumber, lambda: Calendar(["a"]).without(0), value=0)


class Known(Case):
    def test_two_clauses_in_their_sequence(self):
        self.same(plan().known("a", 7).clauses(), PLAN + [("a", "day", 7), ("day", "a", -7)])
        self.same(plan().known(day=-3, moment="b").clauses(), PLAN + [("b", "day", -3), ("day", "b", 3)])
        self.assertEqual(Calendar(["a", "b"]).known("a", 5).known("b", -5).dates(), {"a": 5, "b": -5})

    def test_each_unless_it_is_there(self):
        self.same(plan().known("a", 90).clauses(), PLAN + [("day", "a", -90)])
        self.same(plan().known("a", 0).clauses(), PLAN + [("a", "day", 0)])
        once = plan().known("a", 7)
        self.same(once.known("a", 7).clauses(), once.clauses())

    def test_without_dates(self):
        self.assertIs(plan().known("a", 91).has_dates(), False)
        self.assertIs(plan().known("a", 81).has_dates(), False)
        self.assertIs(plan().known("a", 80).has_dates(), True)

    def test_wrong_moment(self):
        for value in ODD_VALUES + ["c", "day"]:
            if value != "a":
                self.raised(InvalidMoment, lambda value=value: plan().known(value, 1), value=value)
        self.raised(InvalidMoment, lambda: plan().known("c", None), value="c")

    def test_wrong_day(self):
        for value in odd_but(int):
            self.raised(InvalidNumber, lambda value=value: plan().known("a", value), value=value)

    def test_too_many(self):
        full = Calendar(["a"], forty())
        self.raised(TooMany, lambda: full.known("a", 100), what="clauses", limit=40)
        self.raised(TooMany, lambda: full.without(0).known("a", 100), what="clauses", limit=40)
        self.raised(InvalidNumber, lambda: full.known("a", True), value=True)
        self.assertEqual(len(full.without(0).without(0).known("a", 100)), 40)
        self.assertEqual(len(full.known("a", 0)), 40)


class Joined(Case):
    def test_moments_and_clauses_of_both(self):
        one = Calendar(["c", "a"], [("c", "a", 1), ("a", "day", 2)])
        other = Calendar(["b", "a"], [("b", "a", 1), ("a", "day", 2), ("a", "b", 0)])
        self.same((one | other).moments(), ["a", "b", "c"])
        self.same((one | other).clauses(), [("c", "a", 1), ("a", "day", 2), ("b", "a", 1), ("a", "b", 0)])
        self.same((other | one).clauses(), [("b", "a", 1), ("a", "day", 2), ("a", "b", 0), ("c", "a", 1)])

    def test_both_stay(self):
        one, other = plan(), Calendar(["c"], [("c", "day", 1)])
        both = one | other
        self.assertEqual(len(both), 5)
        self.same((one.moments(), one.clauses()), (["a", "b"], PLAN))
        self.same((other.moments(), other.clauses()), (["c"], [("c", "day", 1)]))

    def test_with_itself_and_with_an_empty_one(self):
        one = plan()
        for both in (one | one, one | Calendar([]), one | Calendar(["b"])):
            self.same((both.moments(), both.clauses()), (["a", "b"], PLAN))
        self.same((Calendar([]) | one).clauses(), PLAN)
        self.same((Calendar(["c"]) | one).moments(), ["a", "b", "c"])
        self.assertEqual(Calendar([]) | Calendar([]), Calendar([]))

    def test_without_dates(self):
        both = Calendar(["a"], [("a", "day", -1)]) | Calendar(["a"], [("day", "a", 0)])
        self.assertIs(both.has_dates(), False)

    def test_no_calendar_on_the_right(self):
        for value in ODD_VALUES + [PLAN]:
            self.raised(InvalidCalendar, lambda value=value: plan() | value, value=value)

    def test_too_many(self):
        one = Calendar(LETTERS[:5], [(name, "day", 1) for name in LETTERS[:5]])
        self.assertEqual(len(one | Calendar(LETTERS[3:])), 5)
        self.raised(TooMany, lambda: one | Calendar(LETTERS[5:] + ["i"]), what="moments", limit=8)
        full = Calendar(["a"], forty())
        self.assertEqual(len(full | Calendar(["a"], forty()[5:])), 40)
        self.raised(TooMany, lambda: full | Calendar(["a"], [("a", "day", 20)]), what="clauses", limit=40)
        many = Calendar(LETTERS[1:] + ["i"], [("b", "day", 20)])
        self.raised(TooMany, lambda: full | many, what="moments", limit=8)
