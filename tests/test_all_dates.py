"""all_dates: the dates with days from one to another one, in their sequence."""

from letdays.calendars import Calendar
from letdays.closing import all_dates
from letdays.errors import InvalidNumber, TooMany
from tests.support import Case, dates_by_hand, networks, odd_but

BIG = 10 ** 30 - 1


def asked(*values, **more):
    """Ask for the first element."""
    return lambda: next(iter(all_dates(*values, **more)))


class AllDates(Case):
    def test_sequence(self):
        calendar = Calendar(["b", "a"], [("a", "b", 0)])
        self.same(list(all_dates(calendar, 0, 1)), [{"a": 0, "b": 0}, {"a": 0, "b": 1}, {"a": 1, "b": 1}])
        self.same(list(all_dates(last=-1, first=-1, calendar=calendar)), [{"a": -1, "b": -1}])
        self.same(list(all_dates(Calendar(["m"]), -2, 1)), [{"m": -2}, {"m": -1}, {"m": 0}, {"m": 1}])

    def test_against_all_tuples(self):
        for moments in (["b", "a"], ["c", "a", "b"], ["d", "c", "b", "a"]):
            for clauses in networks(31, 15, moments, 4, 2):
                self.same(list(all_dates(Calendar(moments, clauses), -2, 3)), dates_by_hand(moments, clauses, -2, 3))

    def test_eight_moments(self):
        moments = list("abcdefgh")
        clauses = [("b", "a", 0), ("h", "day", 0)]
        self.same(list(all_dates(Calendar(moments, clauses), 0, 1)), dates_by_hand(moments, clauses, 0, 1))

    def test_no_moments(self):
        self.same(list(all_dates(Calendar([]), 0, 0)), [{}])
        self.same(list(all_dates(Calendar([]), 5, 9)), [{}])
        self.same(list(all_dates(Calendar([]), -BIG, BIG)), [{}])

    def test_no_dates(self):
        self.same(list(all_dates(Calendar(["a"], [("a", "day", -1), ("day", "a", 0)]), -5, 5)), [])
        self.same(list(all_dates(Calendar(["a"], [("a", "day", -6)]), -5, 5)), [])

    def test_the_limit(self):
        self.assertEqual(len(list(all_dates(Calendar(["a", "b"]), 0, 63))), 4096)
        self.assertEqual(len(list(all_dates(Calendar(["a"]), -1, 4094))), 4096)
        self.assertEqual(len(list(all_dates(Calendar(list("abcdef")), 0, 3))), 4096)
        self.raised(TooMany, asked(Calendar(["a"]), 0, 4096), what="dates", limit=4096)
        self.raised(TooMany, asked(Calendar(["a", "b"]), 0, 64), what="dates", limit=4096)
        self.raised(TooMany, asked(Calendar(list("abcdefgh")), 0, 2), what="dates", limit=4096)
        self.raised(TooMany, asked(Calendar(["a"], [("a", "day", 0), ("day", "a", 0)]), -BIG, BIG),
                    what="dates", limit=4096)

    def test_far_days(self):
        calendar = Calendar(["a"], [("day", "a", -BIG + 1)])
        self.same(list(all_dates(calendar, BIG - 3, BIG)), [{"a": BIG - 1}, {"a": BIG}])

    def test_wrong_first(self):
        for value in odd_but(int):
            self.raised(InvalidNumber, asked(Calendar(["a"]), value, 1), value=value)
        self.raised(InvalidNumber, asked(Calendar(["a"]), True, False), value=True)

    def test_wrong_last(self):
        for value in odd_but(int):
            self.raised(InvalidNumber, asked(Calendar(["a"]), 0, value), value=value)
        self.raised(InvalidNumber, asked(Calendar(["a"]), 1, 0), value=0)
        self.raised(InvalidNumber, asked(Calendar([]), 1, 0), value=0)
        self.raised(InvalidNumber, asked(Calendar(["a"]), BIG, -BIG), value=-BIG)
        self.raised(InvalidNumber, asked(Calendar([]), 0, True), value=True)

    def test_errors_of_calendars_without_dates(self):
        none = Calendar(["a"], [("a", "day", -1), ("day", "a", 0)])
        self.raised(InvalidNumber, asked(none, None, 1), value=None)
        self.raised(TooMany, asked(none, 0, 4096), what="dates", limit=4096)

    def test_errors_come_with_the_first_element(self):
        for values in ((None, 1), (0, None), (1, 0), (0, 4096)):
            with self.assertRaises((InvalidNumber, TooMany)):
                list(all_dates(Calendar(["a"]), *values))

    def test_two_iterations_at_once(self):
        calendar = Calendar(["a", "b"], [("a", "b", 0)])
        every = dates_by_hand(["a", "b"], calendar.clauses(), 0, 3)
        found = [(one, other) for one in all_dates(calendar, 0, 3) for other in all_dates(calendar, 0, 3)]
        self.same(found, [(one, other) for one in every for other in every])
        self.same(list(zip(all_dates(calendar, 0, 3), all_dates(calendar, 0, 3))), list(zip(every, every)))

    def test_each_dict_is_new(self):
        for dates in all_dates(Calendar(["a", "b"]), 0, 1):
            dates.clear()
        seen = []
        for dates in all_dates(Calendar(["a", "b"]), 0, 1):
            seen.append(dict(dates))
            dates["a"] = 100
        self.assertEqual(seen, dates_by_hand(["a", "b"], [], 0, 1))
