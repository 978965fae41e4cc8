"""[14] and the guarantee "all days": bounds, rows, spans, and dates that reach them."""

from letdays.calendars import Calendar
from letdays.closing import bound, bounds, dates_with, reaching, row, span
from letdays.errors import InvalidMoment, InvalidNumber, InvalidPoint, NoDates
from tests.support import Case, ODD_VALUES, bound_by_hand, dates_by_hand, day, is_row_by_hand, keeps, networks
from tests.support import numbers, odd_but, point_day, rings_by_hand, some_clauses, total

LETTERS = list("abcdefgh")
BIG = 10 ** 30 - 1
PLAN = [("a", "b", -20), ("b", "day", 100), ("day", "a", 0), ("a", "day", 90)]


def plan():
    return Calendar(["a", "b"], PLAN)


def without_dates():
    return Calendar(["a", "b"], PLAN + [("b", "a", 10)])


class Bounds(Case):
    def test_bounds_of_two_moments(self):
        self.same([bound(plan(), "a", "day"), bound(plan(), "b", "day"), bound(plan(), "day", "a")], [80, 100, 0])
        self.same([bound(plan(), "a", "b"), bound(plan(), "b", "a"), bound(plan(), "day", "b")], [-20, 100, -20])

    def test_none_where_there_is_no_bound(self):
        calendar = Calendar(["a", "b"], [("a", "day", 3)])
        self.assertIsNone(bound(calendar, "day", "a"))
        self.assertIsNone(bound(calendar, "b", "a"))
        self.assertIsNone(bound(calendar, "a", "b"))
        self.same(bound(calendar, "a", "day"), 3)

    def test_a_moment_beside_itself(self):
        for moment in ("a", "b", "day"):
            self.same([bound(plan(), moment, moment), row(plan(), moment, moment)], [0, []])
        self.same(bound(Calendar([]), "day", "day"), 0)
        self.same(bound(Calendar(["a"]), "a", "a"), 0)

    def test_the_least_sum_not_the_shortest_row(self):
        clauses = [("a", "day", 9), ("a", "b", 1), ("b", "c", -1), ("c", "day", 8), ("a", "c", 1)]
        calendar = Calendar(["a", "b", "c"], clauses)
        self.same(bound(calendar, "a", "day"), 8)
        self.same(row(calendar, "a", "day"), [("a", "b", 1), ("b", "c", -1), ("c", "day", 8)])

    def test_by_name(self):
        calendar = plan()
        self.same(bound(calendar=calendar, other="day", one="a"), 80)
        self.same(row(calendar=calendar, other="day", one="a"), [("a", "b", -20), ("b", "day", 100)])
        self.same(bounds(calendar=calendar), bounds(calendar))
        self.same(span(calendar=calendar, other=("a", 0), point=("b", 5)), (25, 105))
        self.assertEqual(reaching(calendar=calendar, other="day", one="b")["b"], 100)
        self.same(dates_with(calendar=calendar, number=3, other=("day", 0), point=("a", 0))["a"], 3)

    def test_all_bounds(self):
        self.same(bounds(plan()), {("a", "b"): -20, ("a", "day"): 80, ("b", "a"): 100, ("b", "day"): 100,
                                   ("day", "a"): 0, ("day", "b"): -20})
        self.same(bounds(Calendar([])), {})
        self.same(bounds(Calendar(["z"], [("day", "z", 4)])), {("day", "z"): 4, ("z", "day"): None})

    def test_returned_dicts_and_lists_are_new(self):
        calendar = plan()
        bounds(calendar).clear()
        row(calendar, "a", "day").clear()
        reaching(calendar, "a", "day").clear()
        self.assertEqual(len(bounds(calendar)), 6)
        self.same(row(calendar, "a", "day"), [("a", "b", -20), ("b", "day", 100)])
        self.same(calendar.clauses(), PLAN)

    def test_thirty_digits(self):
        calendar = Calendar(["a", "b"], [("a", "b", BIG), ("b", "day", BIG), ("day", "a", -BIG)])
        self.same(bound(calendar, "a", "day"), 2 * BIG)
        self.same(span(calendar, ("a", BIG), ("day", -BIG)), (3 * BIG, 4 * BIG))
        self.assertEqual(reaching(calendar, "a", "day")["a"], 2 * BIG)
        self.same(span(calendar, ("b", 0), ("day", 0)), (0, BIG))

    def test_a_chain_of_eight(self):
        stops = LETTERS + ["day"]
        clauses = [(one, other, 2) for one, other in zip(stops, stops[1:])] + [("day", "a", -16)]
        calendar = Calendar(LETTERS, clauses[::-1])
        self.same([bound(calendar, "a", "day"), bound(calendar, "day", "h"), bound(calendar, "h", "g")], [16, -2, -2])
        self.same(row(calendar, "a", "day"), clauses[:8])
        self.same(row(calendar, "e", "d"), clauses[4:] + clauses[:3])
        self.assertEqual(reaching(calendar, "a", "day"), dict(zip(LETTERS, range(16, 0, -2))))


class AgainstAllDates(Case):
    def check(self, moments, clauses, most, first, last):
        """Check all bounds: none but those of at most most is a bound, and the days from first to last show it."""
        calendar = Calendar(moments, clauses)
        every = dates_by_hand(moments, clauses, first, last)
        if not every:
            self.raised(NoDates, lambda: bounds(calendar))
            return False
        table = bounds(calendar)
        stops = sorted(moments + ["day"])
        self.same(list(table), [(one, other) for one in stops for other in stops if one != other])
        for one in stops:
            for other in stops:
                behind = max(day(dates, one) - day(dates, other) for dates in every)
                expected = behind if behind <= most else None
                self.same(bound(calendar, one, other), expected)
                self.same(table.get((one, other), 0), expected)
                self.check_row(calendar, one, other, expected)
                self.check_reaching(calendar, one, other, expected)
        return True

    def check_row(self, calendar, one, other, expected):
        found = row(calendar, one, other)
        if expected is None:
            self.assertIsNone(found)
            return
        self.assertIs(type(found), list)
        self.assertTrue(is_row_by_hand(calendar.clauses(), one, other, found))
        self.assertTrue(calendar.is_row(one, other, found))
        self.assertEqual(total(found), expected)

    def check_reaching(self, calendar, one, other, expected):
        found = reaching(calendar, one, other)
        if expected is None:
            self.assertIsNone(found)
            return
        self.assertTrue(found in calendar)
        self.assertEqual(list(found), calendar.moments())
        self.assertEqual(day(found, one) - day(found, other), expected)

    def test_two_moments(self):
        # A row has at most two clauses, so a bound is at most 6; where there is none, 7 is reached below 14.
        found = [self.check(["a", "b"], clauses, 6, -14, 14) for clauses in networks(11, 60, ["a", "b"], 5, 3)]
        self.assertGreater(found.count(True), 20)
        self.assertGreater(found.count(False), 5)

    def test_three_moments(self):
        found = [self.check(["x", "a", "e"], clauses, 3, -6, 6) for clauses in networks(12, 40, ["a", "e", "x"], 7, 1)]
        self.assertGreater(found.count(True), 10)

    def test_spans(self):
        source = numbers(13)
        for clauses in networks(14, 60, ["a", "b"], 5, 3):
            every = dates_by_hand(["a", "b"], clauses, -14, 14)
            if every:
                self.check_spans(Calendar(["a", "b"], clauses), every, source)

    def check_spans(self, calendar, every, source):
        for one in ("a", "b", "day"):
            for other in ("a", "b", "day"):
                point, behind = (one, source.randint(-5, 5)), (other, source.randint(-5, 5))
                shift = point[1] - behind[1]
                found = [point_day(dates, point) - point_day(dates, behind) for dates in every]
                least = min(found) if min(found) - shift >= -6 else None
                greatest = max(found) if max(found) - shift <= 6 else None
                self.same(span(calendar, point, behind), (least, greatest))
                self.check_within(calendar, point, behind, set(found))

    def check_within(self, calendar, point, behind, found):
        """Check that there are dates for each number within the span, and for no other one."""
        least, greatest = span(calendar, point, behind)
        for number in range(-20, 21):
            dates = dates_with(calendar, point, behind, number)
            if (least is None or least <= number) and (greatest is None or number <= greatest):
                self.assertTrue(dates in calendar)
                self.assertEqual(list(dates), calendar.moments())
                self.assertEqual(point_day(dates, point) - point_day(dates, behind), number)
            else:
                self.assertIsNone(dates)
                self.assertNotIn(number, found)

    def test_many_moments_against_all_rows(self):
        source = numbers(15)
        checked = 0
        for _ in range(60):
            moments = LETTERS[:source.randint(4, 5)]
            clauses = some_clauses(source, moments, source.randint(4, 10), 6)
            calendar = Calendar(moments, clauses)
            if rings_by_hand(clauses):
                self.raised(NoDates, lambda: bounds(calendar))
                continue
            checked += 1
            for (one, other), found in bounds(calendar).items():
                expected = bound_by_hand(clauses, one, other)
                self.same([found, bound(calendar, one, other)], [expected, expected])
                self.check_row(calendar, one, other, expected)
                self.check_reaching(calendar, one, other, expected)
        self.assertGreater(checked, 15)

    def test_many_clauses_kept_by_hidden_dates(self):
        source = numbers(16)
        for _ in range(10):
            hidden = {name: source.randint(-30, 30) for name in LETTERS}
            clauses = some_clauses(source, LETTERS, 40, 40)
            clauses = [clause for clause in clauses if keeps(hidden, [clause])]
            calendar = Calendar(LETTERS, clauses)
            for (one, other), found in bounds(calendar).items():
                self.check_row(calendar, one, other, found)
                self.check_reaching(calendar, one, other, found)
                if found is not None:
                    self.assertLessEqual(day(hidden, one) - day(hidden, other), found)


class Points(Case):
    def test_spans_of_one_moment(self):
        self.same(span(plan(), ("a", 5), ("a", 3)), (2, 2))
        self.same(span(plan(), ("day", -5), ("day", 3)), (-8, -8))
        self.same(span(Calendar(["a"]), ("a", 0), ("a", 0)), (0, 0))
        self.same(span(Calendar(["a"]), ("a", 0), ("day", 0)), (None, None))

    def test_spans_with_one_end(self):
        calendar = Calendar(["a"], [("a", "day", 3)])
        self.same(span(calendar, ("a", 2), ("day", 1)), (None, 4))
        self.same(span(calendar, ("day", 1), ("a", 2)), (-4, None))

    def test_dates_with_one_moment(self):
        self.assertIn(dates_with(plan(), ("a", 5), ("a", 3), 2), plan())
        for number in (1, 3, -2, 0):
            self.assertIsNone(dates_with(plan(), ("a", 5), ("a", 3), number))
        self.same(dates_with(Calendar([]), ("day", 5), ("day", 3), 2), {})
        self.assertIsNone(dates_with(Calendar([]), ("day", 5), ("day", 3), 1))

    def test_dates_with_points_and_day(self):
        dates = dates_with(plan(), ("b", 5), ("day", 7), 60)
        self.assertEqual(dates["b"], 62)
        self.assertTrue(dates in plan())
        dates = dates_with(plan(), ("day", 7), ("b", 5), -60)
        self.assertEqual(dates["b"], 62)
        self.assertIsNone(dates_with(plan(), ("b", 5), ("day", 7), 99))
        self.assertIsNotNone(dates_with(plan(), ("b", 5), ("day", 7), 98))
        self.assertIsNotNone(dates_with(plan(), ("b", 0), ("a", 0), 20))
        self.assertIsNone(dates_with(plan(), ("b", 0), ("a", 0), 19))

    def test_thirty_digits(self):
        dates = dates_with(Calendar(["a", "b"], [("a", "b", 0)]), ("a", BIG), ("day", -BIG), BIG)
        self.assertEqual(dates["a"], -BIG)
        self.assertGreaterEqual(dates["b"], -BIG)

    def test_a_full_calendar(self):
        clauses = [("a", "day", number) for number in range(20)] + [("day", "a", number) for number in range(20)]
        calendar = Calendar(["a", "b"], clauses)
        self.assertEqual(dates_with(calendar, ("b", 0), ("a", 0), 7)["b"], 7)
        self.assertEqual(reaching(calendar, "a", "day")["a"], 0)


class Wrong(Case):
    def test_moments(self):
        for call in (bound, row, reaching):
            for value in ODD_VALUES + ["c", "A"]:
                if value not in ("a", "day"):
                    self.raised(InvalidMoment, lambda: call(plan(), value, "a"), value=value)
                    self.raised(InvalidMoment, lambda: call(plan(), "day", value), value=value)
            self.raised(InvalidMoment, lambda: call(plan(), "x", "y"), value="x")
            self.raised(InvalidMoment, lambda: call(without_dates(), "a", "y"), value="y")
            self.raised(InvalidMoment, lambda: call(without_dates(), None, "a"), value=None)

    def test_points(self):
        wrong = [("c", 0), ("A", 0), ("a", True), ("a", None), ["a", 1], ("a",), ("a", 1, 2), (0, "a"), ("a", "1"), "a"]
        for value in wrong + [value for value in ODD_VALUES if value != ("a", 1) or isinstance(value, list)]:
            self.raised(InvalidPoint, lambda: span(plan(), value, ("a", 0)), value=value)
            self.raised(InvalidPoint, lambda: span(plan(), ("day", 0), value), value=value)
            self.raised(InvalidPoint, lambda: dates_with(plan(), value, ("a", 0), 1), value=value)
            self.raised(InvalidPoint, lambda: dates_with(plan(), ("day", 0), value, 1), value=value)

    def test_the_first_point_decides(self):
        self.raised(InvalidPoint, lambda: span(plan(), ("x", 0), ("y", 0)), value=("x", 0))
        self.raised(InvalidPoint, lambda: span(without_dates(), ("a", 0), ("y", 0)), value=("y", 0))
        self.raised(InvalidPoint, lambda: dates_with(without_dates(), ("x", 0), ("y", 0), None), value=("x", 0))
        self.raised(InvalidPoint, lambda: dates_with(without_dates(), ("a", 0), ("y", 0), None), value=("y", 0))

    def test_numbers(self):
        for value in odd_but(int):
            self.raised(InvalidNumber, lambda: dates_with(plan(), ("a", 0), ("b", 0), value), value=value)
        self.raised(InvalidNumber, lambda: dates_with(without_dates(), ("a", 0), ("b", 0), True), value=True)

    def test_no_dates(self):
        calendar = without_dates()
        for call in (lambda: bound(calendar, "a", "day"), lambda: bound(calendar, "a", "a"),
                     lambda: row(calendar, "a", "day"), lambda: row(calendar, "b", "b"), lambda: bounds(calendar),
                     lambda: span(calendar, ("a", 0), ("b", 0)), lambda: span(calendar, ("a", 0), ("a", 0)),
                     lambda: reaching(calendar, "a", "b"), lambda: reaching(calendar, "a", "a"),
                     lambda: dates_with(calendar, ("a", 0), ("b", 0), 1),
                     lambda: dates_with(calendar, ("a", 0), ("a", 0), 1)):
            self.raised(NoDates, call)

    def test_no_dates_by_a_ring_elsewhere(self):
        calendar = Calendar(["a", "b", "c"], [("a", "b", 0), ("b", "a", -1), ("c", "day", 4)])
        self.raised(NoDates, lambda: bound(calendar, "c", "day"))
        self.raised(NoDates, lambda: row(calendar, "c", "day"))
        self.raised(NoDates, lambda: reaching(calendar, "day", "c"))
