"""[15]: needless and least clauses, calendars that are alike."""

from letdays.calendars import Calendar
from letdays.closing import are_alike, least_clauses, needless, parting_dates
from letdays.errors import NoDates, OtherMoments
from tests.support import Case, bound_by_hand, dates_by_hand, keeps, networks, numbers, rings_by_hand

LETTERS = list("abcdefgh")
PLAN = [("a", "b", -20), ("b", "day", 100), ("day", "a", 0), ("a", "day", 90)]


def is_needless_by_hand(clauses, clause):
    """Whether the others of these clauses have a row that says as much."""
    least = bound_by_hand([other for other in clauses if other != clause], clause[0], clause[1])
    return least is not None and least <= clause[2]


def needless_by_hand(clauses):
    return [at for at, clause in enumerate(clauses) if is_needless_by_hand(clauses, clause)]


def least_by_hand(clauses):
    kept = list(clauses)
    for clause in reversed(clauses):
        if is_needless_by_hand(kept, clause):
            kept.remove(clause)
    return kept


class Needless(Case):
    def test_one(self):
        self.same(needless(Calendar(["a", "b"], PLAN)), [3])
        self.same(needless(calendar=Calendar(["a", "b"], PLAN[::-1])), [0])

    def test_none(self):
        self.same(needless(Calendar(["a", "b"], PLAN[:3])), [])
        self.same(needless(Calendar(["a"])), [])
        self.same(needless(Calendar([])), [])

    def test_the_same_moments_twice(self):
        self.same(needless(Calendar(["a"], [("a", "day", 4), ("a", "day", 3), ("a", "day", 9)])), [0, 2])

    def test_a_sum_that_is_just_the_number(self):
        clauses = [("a", "b", 2), ("b", "day", 3), ("a", "day", 5)]
        self.same(needless(Calendar(["a", "b"], clauses)), [2])
        self.same(needless(Calendar(["a", "b"], clauses[:2] + [("a", "day", 4)])), [])
        self.same(needless(Calendar(["a", "b"], clauses[:2] + [("a", "day", 6)])), [2])

    def test_each_only_while_the_other_one_stands(self):
        ring = [("a", "b", 0), ("b", "a", 0), ("a", "c", 0), ("c", "a", 0), ("b", "c", 0), ("c", "b", 0)]
        calendar = Calendar(["a", "b", "c"], ring)
        self.same(needless(calendar), [0, 1, 2, 3, 4, 5])
        self.same(least_clauses(calendar).clauses(), ring[:4])
        self.same(least_clauses(Calendar(["a", "b", "c"], ring[::-1])).clauses(), ring[::-1][:4])

    def test_no_dates(self):
        calendar = Calendar(["a", "b"], PLAN + [("b", "a", 10)])
        self.raised(NoDates, lambda: needless(calendar))
        self.raised(NoDates, lambda: least_clauses(calendar))
        elsewhere = Calendar(["a", "b", "c"], [("a", "b", 0), ("b", "a", -1), ("c", "day", 4), ("c", "day", 5)])
        self.raised(NoDates, lambda: needless(elsewhere))
        self.raised(NoDates, lambda: least_clauses(elsewhere))

    def networks_of_small_sums(self):
        """Clauses of which many are needless only while another one stands."""
        small = [[(one, other, max(number, 0)) for one, other, number in clauses]
                 for clauses in networks(24, 200, ["a", "b", "c"], 14, 1)]
        return [list(dict.fromkeys(clauses)) for clauses in small]

    def test_against_all_rows(self):
        found = 0
        for clauses in networks(21, 100, ["a", "b", "c"], 8, 3) + self.networks_of_small_sums():
            calendar = Calendar(["c", "b", "a"], clauses)
            if rings_by_hand(clauses):
                self.raised(NoDates, lambda: needless(calendar))
                continue
            self.same(needless(calendar), needless_by_hand(clauses))
            least = least_clauses(calendar)
            self.same((least.moments(), least.clauses()), (["a", "b", "c"], least_by_hand(clauses)))
            self.same(calendar.clauses(), clauses)
            self.same(needless(least), [])
            self.assertTrue(are_alike(calendar, least))
            found += len(needless(calendar)) > len(clauses) - len(least)
        self.assertGreater(found, 5)

    def test_a_full_calendar(self):
        clauses = [("a", "day", number) for number in range(20)] + [("day", "a", number) for number in range(20)]
        self.same(needless(Calendar(["a"], clauses)), [at for at in range(40) if at not in (0, 20)])
        self.same(least_clauses(Calendar(["a"], clauses)).clauses(), [("a", "day", 0), ("day", "a", 0)])


class Least(Case):
    def test_in_their_sequence(self):
        calendar = Calendar(["a", "b"], [PLAN[3]] + PLAN[:3])
        self.same(least_clauses(calendar).clauses(), PLAN[:3])
        self.same(least_clauses(calendar=Calendar(["a", "b"], PLAN)).clauses(), PLAN[:3])

    def test_from_the_last_one_on(self):
        clauses = [("a", "b", 0), ("b", "a", 0), ("a", "day", 5), ("b", "day", 5)]
        self.same(needless(Calendar(["a", "b"], clauses)), [2, 3])
        self.same(least_clauses(Calendar(["a", "b"], clauses)).clauses(), clauses[:3])
        self.same(least_clauses(Calendar(["a", "b"], clauses[::-1])).clauses(), clauses[::-1][:1] + clauses[::-1][2:])

    def test_moments_stay(self):
        least = least_clauses(Calendar(["b", "a"]))
        self.assertEqual(least, Calendar(["a", "b"]))
        self.assertEqual(least_clauses(Calendar([])), Calendar([]))


class Alike(Case):
    def check(self, one, other, expected):
        """Check both functions, in both directions."""
        for left, right in ((one, other), (other, one)):
            self.assertIs(are_alike(left, right), expected)
            dates = parting_dates(left, right)
            if expected:
                self.assertIsNone(dates)
            else:
                self.same(list(dates), left.moments())
                self.assertNotEqual(keeps(dates, left.clauses()), keeps(dates, right.clauses()))
                self.assertNotEqual(dates in left, dates in right)

    def test_alike(self):
        one = Calendar(["a", "b"], PLAN)
        self.check(one, Calendar(["a", "b"], PLAN[:3]), True)
        self.check(one, Calendar(["b", "a"], PLAN[::-1]), True)
        self.check(one, one, True)
        self.check(Calendar([]), Calendar([]), True)
        self.check(Calendar(["a"]), Calendar(["a"]), True)

    def test_not_alike(self):
        one = Calendar(["a", "b"], PLAN)
        self.check(one, Calendar(["a", "b"], PLAN[1:]), False)
        self.check(one, Calendar(["a", "b"]), False)
        self.check(one, Calendar(["a", "b"], PLAN[:3] + [("a", "day", 79)]), False)
        self.check(Calendar(["a"], [("a", "day", 1)]), Calendar(["a"], [("day", "a", 1)]), False)

    def test_without_dates(self):
        none = Calendar(["a", "b"], PLAN + [("b", "a", 10)])
        other = Calendar(["a", "b"], [("a", "b", -1), ("b", "a", 0)])
        self.check(none, other, True)
        self.check(none, none, True)
        self.check(none, Calendar(["a", "b"], PLAN), False)
        self.check(none, Calendar(["a", "b"]), False)

    def test_full_calendars(self):
        clauses = [("a", "day", number) for number in range(20)] + [("day", "a", number) for number in range(20)]
        self.check(Calendar(["a"], clauses), Calendar(["a"], [("a", "day", 0), ("day", "a", 0)]), True)
        self.check(Calendar(["a"], clauses), Calendar(["a"], clauses[1:]), False)

    def test_thirty_digits(self):
        big = 10 ** 30 - 1
        self.check(Calendar(["a"], [("a", "day", big)]), Calendar(["a"], [("a", "day", big - 1)]), False)
        self.check(Calendar(["a"], [("a", "day", big)]), Calendar(["a"], [("a", "day", big), ("day", "a", big)]), False)

    def test_against_all_dates(self):
        source = numbers(22)
        sides = {True: 0, False: 0}
        for clauses in networks(23, 150, ["a", "b"], 5, 2):
            changed = [(one, other, number + source.choice([0, 0, 0, 1])) for one, other, number in clauses]
            changed = list(dict.fromkeys(changed + clauses[source.randint(0, 5):]))
            expected = dates_by_hand(["a", "b"], clauses, -12, 12) == dates_by_hand(["a", "b"], changed, -12, 12)
            sides[expected] += 1
            self.check(Calendar(["a", "b"], clauses), Calendar(["a", "b"], changed), expected)
        self.assertGreater(min(sides.values()), 20)

    def test_other_moments(self):
        one, other = Calendar(["b", "a"], PLAN), Calendar(["c", "a"])
        for call in (are_alike, parting_dates):
            self.raised(OtherMoments, lambda: call(one, other), one=["a", "b"], other=["a", "c"])
            self.raised(OtherMoments, lambda: call(other=one, one=other), one=["a", "c"], other=["a", "b"])
            self.raised(OtherMoments, lambda: call(one, Calendar(["a"])), one=["a", "b"], other=["a"])
            self.raised(OtherMoments, lambda: call(Calendar([]), Calendar(["a"])), one=[], other=["a"])
            none = Calendar(["a", "b"], PLAN + [("b", "a", 10)])
            self.raised(OtherMoments, lambda: call(none, Calendar(["a"])), one=["a", "b"], other=["a"])
