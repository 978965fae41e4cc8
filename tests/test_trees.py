"""[34]: quiet dates or a tree, never both; trees told, spoilt and of any kind."""

from letdays.books import Book
from letdays.calendars import Calendar
from letdays.errors import TooMany
from letdays.together import is_quiet, is_tree, open_pairs, quiet_dates, tree
from tests.support import Anything, Case, ODD_VALUES, ahead_by_hand, deal, keeps, open_books, open_by_hand, point_day
from tests.support import small_books, total

YEAR = Calendar(["show"], [("show", "day", 40), ("day", "show", -10)])
RIGHT = ("discs", "net", [("day", "day", -41)], [("day", "show", -61), ("show", "day", 40)])


def year():
    return Book(YEAR, [deal("halls", ("show", 0), ("show", 29)), deal("discs", ("show", 30), ("day", 100)),
                       deal("net", ("day", 60), ("day", 90))])


def asked(book, one, other):
    """The clause that puts one deal ahead of the other one."""
    end, begin = book[one].end, book[other].begin
    return (end[0], begin[0], begin[1] - end[1] - 1)


def is_tree_by_hand(book, pairs, clauses, value):
    """Whether a tuple or list, of rings of clauses at its ends, is a tree."""
    if len(value) == 4 and isinstance(value[0], str):
        one, other, first, second = value
        return ((one, other) in pairs and is_tree_by_hand(book, pairs, clauses + [asked(book, one, other)], first)
                and is_tree_by_hand(book, pairs, clauses + [asked(book, other, one)], second))
    return (len(value) > 0 and all(clause in clauses for clause in value) and len(set(value)) == len(value)
            and all(one[1] == other[0] for one, other in zip(value, list(value[1:]) + [value[0]]))
            and total(value) < 0)


def is_quiet_by_hand(book, dates):
    """Whether dates keep all clauses, and no two deals that touch are on together in them."""
    def days(name):
        return range(point_day(dates, book[name].begin), point_day(dates, book[name].end) + 1)
    meeting = [pair for pair in book.touching() if set(days(pair[0])) & set(days(pair[1]))]
    return keeps(dates, book.clauses()) and meeting == []


def rings_of(value):
    """The rings of a tree, with the places where they stand."""
    if len(value) == 4 and isinstance(value[0], str):
        return [(at,) + place for at in (2, 3) for place in rings_of(value[at])]
    return [()]


def part_at(value, place):
    for at in place:
        value = value[at]
    return value


def changed_at(value, place, part):
    """The tree with another part at a place."""
    if place == ():
        return part
    at = place[0]
    return value[:at] + (changed_at(value[at], place[1:], part),) + value[at + 1:]


class QuietOrTree(Case):
    def check_book(self, book, has_quiet):
        dates, found = quiet_dates(book), tree(book)
        self.assertIs(dates is None, not has_quiet)
        self.assertIs(found is None, has_quiet)
        if has_quiet:
            self.same([type(dates), list(dates)], [dict, book.calendar.moments()])
            self.assertTrue(is_quiet_by_hand(book, dates))
            self.assertIs(is_quiet(book, dates), True)
            return
        ahead = ahead_by_hand(book)
        self.assertTrue(is_tree_by_hand(book, open_by_hand(book, ahead), book.clauses(), found))
        self.assertIs(is_tree(book, found), True)
        self.assertTrue(all(type(part_at(found, place)) is list for place in rings_of(found)))

    def test_against_all_dates(self):
        told = [0, 0]
        for book, every in small_books(71, 150, names="abcd", size=4):
            if len(open_pairs(book)) <= 6:
                has_quiet = any(is_quiet_by_hand(book, dates) for dates in every)
                told[has_quiet] += 1
                self.check_book(book, has_quiet)
        self.assertGreater(min(told), 20)

    def test_never_both(self):
        told = [0, 0]
        for book in open_books(72, 150, names="abcd"):
            if len(open_pairs(book)) <= 6:
                has_quiet = quiet_dates(book) is not None
                told[has_quiet] += 1
                self.check_book(book, has_quiet)
        self.assertGreater(min(told), 5)

    def test_safe_book(self):
        book = Book(YEAR, [deal("halls", ("show", 0), ("show", 29)), deal("discs", ("show", 30), ("day", 100))])
        self.check_book(book, True)
        self.assertIs(is_tree(book, []), False)
        self.assertIs(is_tree(book, [("show", "day", 40), ("day", "show", -10)]), False)

    def test_all_forks_may_be_needed(self):
        # Three times five days fit behind one another if the last one may begin on the day 10.
        deals = [deal("a", ("m", 0), ("m", 4)), deal("b", ("n", 0), ("n", 4)), deal("c", ("p", 0), ("p", 4))]
        for last, has_quiet in ((9, False), (10, True)):
            clauses = [(moment, "day", last) for moment in "mnp"] + [("day", moment, 0) for moment in "mnp"]
            self.check_book(Book(Calendar(["m", "n", "p"], clauses), deals), has_quiet)


class Limits(Case):
    def crossed(self, count):
        """A book with so many open pairs: a deal that lasts, and some others that touch only it."""
        clauses = [("day", "m", 0), ("m", "day", 90)]
        one = deal("a", ("m", 0), ("m", 0), "xy")
        others = [deal("bcdefgh"[at], ("day", 10 * at), ("day", 10 * at + 5)) for at in range(count)]
        return Book(Calendar(["m"], clauses), [one] + others)

    def test_six_are_let(self):
        book = self.crossed(6)
        self.same(len(open_pairs(book)), 6)
        self.assertTrue(is_quiet(book, quiet_dates(book)))
        self.assertIsNone(tree(book))

    def test_six_with_a_tree(self):
        book = Book(Calendar([], []), [deal(name, ("day", 0), ("day", 4)) for name in "abcd"])
        self.same(len(open_pairs(book)), 6)
        self.assertIsNone(quiet_dates(book))
        self.assertIs(is_tree(book, tree(book)), True)

    def test_seven_are_not(self):
        book = self.crossed(7)
        self.same(len(open_pairs(book)), 7)
        for call in (quiet_dates, tree):
            self.raised(TooMany, lambda: call(book), what="pairs", limit=6)

    def test_trees_are_judged_with_more_pairs(self):
        book = Book(Calendar([], []), [deal(name, ("day", 0), ("day", 4)) for name in "abcde"])
        self.same(len(open_pairs(book)), 10)
        self.raised(TooMany, lambda: tree(book), what="pairs", limit=6)
        ring = [("day", "day", -5)]
        self.assertIs(is_tree(book, ("b", "d", ring, ring)), True)
        self.assertIs(is_tree(book, ("b", "d", ring, [])), False)


class Told(Case):
    def test_right_ones(self):
        one, other, first, second = RIGHT
        turned = second[::-1]
        for value in (RIGHT, (one, other, tuple(first), second), (one, other, first, tuple(second)),
                      (one, other, first, turned), (one, other, first, tuple(turned)),
                      ("discs", "net", RIGHT, second), ("discs", "net", first, RIGHT),
                      ("halls", "net", RIGHT, RIGHT), ("discs", "net", ("halls", "net", first, first), second)):
            self.assertIs(is_tree(year(), value), True, value)

    def test_spoilt_ones(self):
        one, other, first, second = RIGHT
        for value in ((other, one, first, second), (one, other, second, first), (other, one, second, first),
                      (one, one, first, second), ("halls", "net", first, second), ("discs", "halls", first, second),
                      [one, other, first, second], (one, other, first), (one, other, first, second, second),
                      (one, other, first, []), (one, other, [], second), (one, other, first, second[:1]),
                      (one, other, first, second[1:]), (one, other, first + first, second),
                      (one, other, first, second + second), (one, other, [first], second),
                      (one, other, first[0], second),
                      (one, other, [("day", "day", -40)], second), (one, other, [("day", "day", -42)], second),
                      (one, other, [["day", "day", -41]], second), (one, other, [("show", "show", -41)], second),
                      (one, other, first, [("day", "show", -61), ("show", "day", 39)]),
                      (one, other, first, [("day", "show", -60), ("show", "day", 40)]),
                      (one, other, first, None), (one, other, None, second), (None, None, first, second),
                      first, second, [], (), [("show", "day", 40), ("day", "show", -10)]):
            self.assertIs(is_tree(year(), value), False, value)

    def test_an_asked_clause_is_known_in_its_own_branch_alone(self):
        one, other, first, second = RIGHT
        for value in ((one, other, second, second), (one, other, first, first),
                      (one, other, first, ("halls", "net", first, second)),
                      ("halls", "net", second, RIGHT), ("halls", "net", RIGHT, first)):
            self.assertIs(is_tree(year(), value), False, value)
        inner = ("halls", "net", second, second)
        self.assertIs(is_tree(year(), (one, other, first, inner)), True)

    def test_each_clause_once(self):
        clauses = [("day", "m", 0), ("m", "day", 3), ("day", "n", 0), ("n", "day", 3), ("n", "day", 4)]
        book = Book(Calendar(["m", "n"], clauses), [deal("a", ("m", 0), ("m", 9)), deal("b", ("n", 0), ("n", 9))])
        forth, second = ("m", "n", -10), [("n", "m", -10), ("m", "day", 3), ("day", "n", 0)]
        ring = [forth, ("n", "day", 3), ("day", "m", 0)]
        self.assertIs(is_tree(book, ("a", "b", ring, second)), True)
        self.assertIs(is_tree(book, ("a", "b", ring + ring, second)), False)
        # A moment may be come to twice.
        longer = [forth, ("n", "day", 3), ("day", "n", 0), ("n", "day", 4), ("day", "m", 0)]
        self.assertIs(is_tree(book, ("a", "b", longer, second)), True)
        again = [forth, ("n", "day", 3), ("day", "n", 0), ("n", "day", 3), ("day", "m", 0)]
        self.assertIs(is_tree(book, ("a", "b", again, second)), False)
        self.assertIs(is_tree(book, ("a", "b", longer[1:3], second)), False)

    def test_a_sum_just_below_zero(self):
        for last, expected in ((3, True), (4, True), (5, False)):
            clauses = [("day", "m", 0), ("m", "day", last)]
            book = Book(Calendar(["m"], clauses), [deal("a", ("m", 0), ("m", 0)), deal("b", ("day", 0), ("day", 4))])
            second = [("day", "m", -5), ("m", "day", last)]
            self.assertIs(is_tree(book, ("a", "b", [("m", "day", -1), ("day", "m", 0)], second)), expected)

    def test_values_of_any_kind(self):
        one, other, first, second = RIGHT
        for value in ODD_VALUES:
            for spoilt in (value, [value], (value,), (value, other, first, second), (one, value, first, second),
                           (one, other, value, second), (one, other, first, value), (one, other, [value], second),
                           (one, other, first, [second[0], value]), (one, other, [("day", "day", value)], second),
                           (one, other, [(value, "day", -41)], second), (one, other, [("day", value, -41)], second),
                           (value, value, value, value), (one, other, value, value)):
                if spoilt != RIGHT:
                    self.assertIs(is_tree(year(), spoilt), False, spoilt)

    def test_a_value_that_is_equal_to_any(self):
        one, other, first, second = RIGHT
        any_value = Anything()
        for value in (any_value, (any_value, other, first, second), (one, any_value, first, second),
                      (one, other, [any_value], second), (one, other, [(any_value, "day", -41)], second),
                      (one, other, [("day", any_value, -41)], second),
                      (one, other, [("day", "day", any_value)], second)):
            self.assertIs(is_tree(year(), value), False)

    def test_true_is_not_one(self):
        clauses = [("day", "m", 1), ("m", "day", 3)]
        book = Book(Calendar(["m"], clauses), [deal("a", ("m", 0), ("m", 0)), deal("b", ("day", -1), ("day", 4))])
        for number, expected in ((1, True), (True, False)):
            value = ("a", "b", [("m", "day", -2), ("day", "m", number)], [("day", "m", -5), ("m", "day", 3)])
            self.assertIs(is_tree(book, value), expected)

    def test_drawn_trees_spoilt(self):
        tried = 0
        for book, _ in small_books(73, 60, names="abcd", size=4):
            found = tree(book) if len(open_pairs(book)) <= 6 else None
            for place in rings_of(found) if found is not None else []:
                ring = part_at(found, place)
                for turn in range(len(ring)):
                    self.assertIs(is_tree(book, changed_at(found, place, ring[turn:] + ring[:turn])), True)
                for spoilt in [ring[:at] + ring[at + 1:] for at in range(len(ring))] + [ring + ring]:
                    value = changed_at(found, place, spoilt)
                    expected = is_tree_by_hand(book, open_pairs(book), book.clauses(), value)
                    self.assertIs(is_tree(book, value), expected)
                one, number = ring[0], ring[0][2]
                for spoilt in ([one[:2] + (number - 1,)] + ring[1:], [list(one)] + ring[1:]):
                    value = changed_at(found, place, spoilt)
                    expected = type(spoilt[0]) is tuple and is_tree_by_hand(
                        book, open_pairs(book), book.clauses(), value)
                    self.assertIs(is_tree(book, value), expected)
                tried += 1
        self.assertGreater(tried, 50)

    def test_drawn_forks_exchanged(self):
        told = [0, 0]
        for book, _ in small_books(74, 60, names="abcd", size=4):
            found = tree(book) if len(open_pairs(book)) <= 6 else None
            if found is not None:
                one, other, first, second = found
                for value in ((other, one, first, second), (one, other, second, first)):
                    expected = is_tree_by_hand(book, open_pairs(book), book.clauses(), value)
                    told[expected] += 1
                    self.assertIs(is_tree(book, value), expected)
                for again in open_pairs(book):
                    self.assertIs(is_tree(book, again + (found, found)), True)
        self.assertGreater(told[0], 20)

    def test_returned_values_are_new(self):
        book = year()
        part = tree(book)[2]
        part.clear()
        self.assertIs(is_tree(book, tree(book)), True)
        self.same(tree(book), tree(book))
        free = Book(YEAR, [deal("halls", ("show", 0), ("show", 29)), deal("net", ("day", 60), ("day", 90))])
        quiet_dates(free).clear()
        self.assertTrue(is_quiet(free, quiet_dates(free)))
        self.same(quiet_dates(free), quiet_dates(free))

    def test_by_name(self):
        book = year()
        self.same([quiet_dates(book=book), tree(book=book)], [None, tree(book)])
        self.same(is_tree(value=RIGHT, book=book), True)
