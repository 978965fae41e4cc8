"""[13] and the guarantee "dates or a ring": rows, rings and dates of calendars."""

from letdays.calendars import Calendar
from letdays.errors import InvalidMoment, NoDates
from tests.support import Case, ODD_VALUES, dates_by_hand, is_row_by_hand, keeps, networks, rings_by_hand
from tests.support import rows_by_hand, some_clauses, numbers, total

LETTERS = list("abcdefgh")
BIG = 10 ** 30 - 1
WALK = [("a", "b", 1), ("b", "c", 2), ("c", "day", -4), ("day", "a", 0), ("b", "a", -2), ("a", "b", 2)]


def walk():
    return Calendar(["a", "b", "c"], WALK)


def chain(last):
    """Eight moments and `day`, each at most one day ahead of the next one, round, but for the last clause."""
    stops = LETTERS + ["day"]
    return [(one, other, 1) for one, other in zip(stops, stops[1:])] + [("day", "a", last)]


class Rows(Case):
    def test_rows(self):
        calendar = walk()
        for one, other, value in (
                ("a", "b", [("a", "b", 1)]), ("a", "b", [("a", "b", 2)]), ("a", "c", [("a", "b", 2), ("b", "c", 2)]),
                ("a", "day", WALK[:3]), ("c", "a", [("c", "day", -4), ("day", "a", 0)]), ("a", "a", []),
                ("day", "day", []), ("day", "c", [("day", "a", 0), ("a", "b", 1), ("b", "c", 2)])):
            self.assertIs(calendar.is_row(one, other, value), True)
            self.assertIs(calendar.is_row(one, other, tuple(value)), True)
            self.assertIs(calendar.is_row(value=value, other=other, one=one), True)

    def test_no_rows(self):
        calendar = walk()
        for one, other, value in (
                ("a", "b", []), ("a", "c", [("a", "b", 1)]), ("b", "b", [("a", "b", 1)]), ("b", "a", [("a", "b", 1)]),
                ("a", "c", [("b", "c", 2), ("a", "b", 1)]), ("a", "b", [("a", "b", 3)]), ("c", "b", [("b", "c", 2)]),
                ("a", "c", [("a", "b", 1), ("b", "a", -2), ("a", "b", 2), ("b", "c", 2)]),
                ("a", "b", [("a", "b", 1), ("b", "a", -2), ("a", "b", 2)]), ("a", "b", [("a", "b", 1), ("a", "b", 2)]),
                ("a", "a", [("a", "b", 1), ("b", "a", -2)]), ("a", "a", WALK[:4]), ("a", "b", [["a", "b", 1]]),
                ("a", "b", [("a", "b", True)]), ("a", "b", ("a", "b", 1)), ("a", "c", [("a", "b", 1), ("a", "c", 0)]),
                ("day", "b", [("day", "a", False), ("a", "b", 1)]), ("a", "b", [("a", "b", 1), None])):
            self.assertIs(calendar.is_row(one, other, value), False, (one, other, value))

    def test_a_row_of_other_moments_is_none(self):
        self.assertIs(walk().is_row("b", "c", [("a", "b", 1), ("b", "c", 2)]), False)
        self.assertIs(walk().is_row("a", "b", [("a", "b", 1), ("b", "c", 2)]), False)

    def test_any_value(self):
        for value in ODD_VALUES:
            self.assertIs(walk().is_row("a", "b", value), False)
            self.assertIs(walk().is_row("a", "a", value), isinstance(value, (list, tuple)) and len(value) == 0)
            self.assertIs(walk().is_row("a", "b", [value]), value == ("a", "b", 1))

    def test_wrong_moments(self):
        for value in ODD_VALUES + ["d", "A"]:
            if value not in ("a", "day"):
                self.raised(InvalidMoment, lambda value=value: walk().is_row(value, "a", []), value=value)
                self.raised(InvalidMoment, lambda value=value: walk().is_row("day", value, None), value=value)
        self.raised(InvalidMoment, lambda: walk().is_row("y", "x", []), value="y")

    def test_long_values(self):
        self.assertIs(walk().is_row("a", "b", [("a", "b", 1)] * 2000), False)
        self.assertIs(walk().is_ring([("a", "b", 1), ("b", "a", -2)] * 1000), False)

    def test_against_all_rows(self):
        source = numbers(1)
        for clauses in networks(2, 20, ["a", "b", "c"], 7, 3):
            calendar = Calendar(["a", "b", "c"], clauses)
            for one in ("a", "b", "day"):
                for other in ("a", "c", "day"):
                    for row in rows_by_hand(clauses, one, other):
                        self.assertIs(calendar.is_row(one, other, row), True)
                    for _ in range(5):
                        value = source.sample(clauses, min(len(clauses), source.randint(0, 3)))
                        self.assertIs(calendar.is_row(one, other, value), is_row_by_hand(clauses, one, other, value))


class Rings(Case):
    def test_rings(self):
        calendar = walk()
        for value in ([("a", "b", 1), ("b", "a", -2)], [("b", "a", -2), ("a", "b", 1)], WALK[:4],
                      WALK[1:4] + WALK[:1], [("b", "c", 2), ("c", "day", -4), ("day", "a", 0), ("a", "b", 1)]):
            self.assertIs(calendar.is_ring(value), True)
            self.assertIs(calendar.is_ring(tuple(value)), True)
            self.assertIs(calendar.is_ring(value=value), True)

    def test_no_rings(self):
        calendar = walk()
        for value in ([], (), [("b", "a", -2)], [("c", "day", -4)], [("a", "b", 2), ("b", "a", -2)], WALK[:3],
                      [("a", "b", 2)] + WALK[1:4], [("b", "a", -2), ("a", "b", True)], [("b", "a", -3), ("a", "b", 1)],
                      [("c", "day", -4), ("day", "a", False), ("a", "b", 1), ("b", "c", 2)],
                      [["a", "b", 1], ["b", "a", -2]], [("b", "a", -2), ("a", "b", 1), ("b", "a", -2), ("a", "b", 2)],
                      WALK[:4] + [("a", "b", 1), ("b", "a", -2)], [("b", "a", -2), ("day", "a", 0)],
                      [("c", "day", -4), ("a", "b", 1)], [("b", "a", -2), None], {("a", "b", 1): ("b", "a", -2)}):
            self.assertIs(calendar.is_ring(value), False, value)

    def test_a_moment_that_is_come_to_twice(self):
        clauses = [("a", "b", -1), ("b", "c", -1), ("c", "b", 0), ("b", "a", 0)]
        calendar = Calendar(["a", "b", "c"], clauses)
        self.assertIs(calendar.is_ring(clauses), False)
        self.assertIs(calendar.is_ring(clauses[1:3]), True)
        self.assertIs(calendar.is_ring([clauses[0], clauses[3]]), True)

    def test_any_value(self):
        for value in ODD_VALUES:
            self.assertIs(walk().is_ring(value), False)
            self.assertIs(walk().is_ring([value, ("b", "a", -2)]), value == ("a", "b", 1))
            self.assertIs(Calendar([]).is_ring(value), False)

    def test_sums_below_zero_only(self):
        for number, expected in ((-2, True), (-1, False), (0, False)):
            calendar = Calendar(["a"], [("a", "day", 1), ("day", "a", number)])
            self.assertIs(calendar.is_ring(calendar.clauses()), expected)
            self.assertIs(calendar.is_ring(calendar.clauses()[::-1]), expected)

    def test_spoilt_by_one_clause(self):
        clauses = chain(-9)
        calendar = Calendar(LETTERS, clauses)
        self.assertIs(calendar.is_ring(clauses), True)
        for at in range(len(clauses)):
            self.assertIs(calendar.is_ring(clauses[at:] + clauses[:at]), True)
            self.assertIs(calendar.is_ring(clauses[:at] + clauses[at + 1:]), False)
            one, other, number = clauses[at]
            self.assertIs(calendar.is_ring(clauses[:at] + [(one, other, number - 1)] + clauses[at + 1:]), False)
            self.assertIs(calendar.is_ring(clauses[:at] + [[one, other, number]] + clauses[at + 1:]), False)


class Dates(Case):
    def check(self, moments, clauses, expected):
        """Check that there are dates, or a ring, as expected."""
        calendar = Calendar(moments, clauses)
        self.assertIs(calendar.has_dates(), expected)
        if expected:
            self.assertIsNone(calendar.ring())
            dates = calendar.dates()
            self.same(list(dates), sorted(moments))
            self.assertTrue(all(type(day) is int for day in dates.values()))
            self.assertTrue(keeps(dates, clauses))
            self.assertTrue(dates in calendar)
        else:
            self.raised(NoDates, calendar.dates)
            ring = calendar.ring()
            self.assertIs(type(ring), list)
            self.assertIn(ring, rings_by_hand(clauses))
            self.assertTrue(calendar.is_ring(ring))
            self.assertLess(total(ring), 0)
        self.assertEqual(calendar.ring(), calendar.ring())

    def test_no_moments(self):
        self.check([], [], True)
        self.same(Calendar([]).dates(), {})

    def test_no_clauses(self):
        self.check(["a"], [], True)
        self.check(["b", "a", "c"], [], True)

    def test_one_moment(self):
        for low in range(-3, 4):
            for high in range(-3, 4):
                self.check(["a"], [("a", "day", high), ("day", "a", -low)], low <= high)

    def test_repeated_calls(self):
        calendar = walk().without(4)
        self.same(calendar.dates() if calendar.has_dates() else calendar.ring(),
                  calendar.dates() if calendar.has_dates() else calendar.ring())

    def test_rings_that_do_not_hang_on_day(self):
        self.check(["a", "b"], [("a", "b", -1), ("b", "a", 0)], False)
        self.check(["a", "b"], [("a", "b", -1), ("b", "a", 1)], True)
        self.check(["a", "b", "c", "d"], [("c", "d", 5), ("d", "c", -6), ("a", "day", 0), ("day", "b", 4)], False)

    def test_moments_that_hang_on_nothing(self):
        self.check(["a", "b", "c", "d"], [("a", "b", -5), ("c", "day", -3)], True)
        self.check(["a", "b", "c", "d"], [("day", "b", -5), ("c", "b", -3), ("c", "d", -1000)], True)

    def test_far_away(self):
        for clauses in ([("a", "b", -1000), ("b", "c", -1000), ("c", "day", -1000), ("day", "b", 9000)],
                        [("a", "b", 1000), ("day", "a", -1000), ("c", "b", -1000), ("day", "c", -5)]):
            self.check(["a", "b", "c"], clauses, True)

    def test_a_chain_of_eight_that_comes_round(self):
        self.check(LETTERS, chain(-9), False)
        self.check(LETTERS, chain(-8), True)
        self.check(LETTERS, chain(-7), True)
        for at in range(9):
            self.check(LETTERS, chain(-9)[at:] + chain(-9)[:at], False)
            self.check(LETTERS, chain(-9)[::-1][at:] + chain(-9)[::-1][:at], False)
            self.check(LETTERS, chain(-8)[::-1][at:] + chain(-8)[::-1][:at], True)

    def test_a_chain_without_day_that_comes_round(self):
        clauses = [(one, other, 0) for one, other in zip(LETTERS, LETTERS[1:])]
        self.check(LETTERS, clauses + [("h", "a", -1)], False)
        self.check(LETTERS, clauses + [("h", "a", 0)], True)

    def test_thirty_digits(self):
        self.check(["a", "b"], [("a", "b", BIG), ("b", "day", -BIG), ("day", "a", 0)], True)
        self.check(["a", "b"], [("a", "b", BIG), ("b", "day", -BIG), ("day", "a", -1)], False)
        self.check(["a", "b"], [("a", "b", -BIG), ("b", "day", -BIG), ("day", "a", BIG)], False)
        self.check(["a", "b"], [("a", "b", -BIG), ("b", "a", BIG), ("day", "b", -BIG)], True)

    def test_both_sides_of_many_calendars(self):
        sides = {True: 0, False: 0}
        for moments in (["a", "b"], ["a", "b", "c"], ["x", "c", "a", "b"]):
            for clauses in networks(len(moments), 150, moments, 9, 4):
                expected = not rings_by_hand(clauses)
                sides[expected] += 1
                self.check(moments, clauses, expected)
        self.assertGreater(min(sides.values()), 50)

    def test_against_all_dates(self):
        for clauses in networks(5, 200, ["a", "b"], 6, 2):
            # Without a ring there are dates not farther from day 0 than all numbers of a row.
            self.check(["a", "b"], clauses, len(dates_by_hand(["a", "b"], clauses, -6, 6)) > 0)

    def test_many_clauses(self):
        source = numbers(6)
        for _ in range(30):
            clauses = some_clauses(source, LETTERS, 40, 20)
            calendar = Calendar(LETTERS, clauses)
            if calendar.has_dates():
                self.assertTrue(keeps(calendar.dates(), clauses))
                self.assertIsNone(calendar.ring())
            else:
                self.assertTrue(calendar.is_ring(calendar.ring()))
                self.assertLess(total(calendar.ring()), 0)
                self.raised(NoDates, calendar.dates)
            hidden = {name: source.randint(-50, 50) for name in LETTERS}
            kept = [(one, other, number) for one, other, number in clauses if keeps(hidden, [(one, other, number)])]
            self.assertIs(Calendar(LETTERS, kept).has_dates(), True)
            self.assertTrue(keeps(Calendar(LETTERS, kept).dates(), kept))
