"""`Window`: numbers told by stretches, against all numbers of a wide range, gone through one by one."""

from letdays.buying import Back
from letdays.books import Book
from letdays.calendars import Calendar
from letdays.errors import InvalidNumber, InvalidStretches, InvalidWindow
from letdays.windows import Window
from tests.support import Case, ODD_VALUES, numbers, odd_but

BIG = 10 ** 29
WIDE = range(-30, 31)


def some_stretch(source):
    low = source.choice([None] + list(range(-9, 10)) * 2)
    high = source.choice([None] + list(range(0, 7)) * 2)
    return (low, high if high is None else high + (0 if low is None else low))


def some_stretches(source):
    return [some_stretch(source) for _ in range(source.randint(0, 5))]


def bounded(source):
    lows = [source.randint(-15, 12) for _ in range(source.randint(0, 7))]
    return [(low, low + source.randint(0, 3)) for low in lows]


def drawn(seed, count):
    source = numbers(seed)
    return [some_stretches(source) if at % 2 else bounded(source) for at in range(count)]


def has(stretches, number):
    return any((low is None or low <= number) and (high is None or number <= high) for low, high in stretches)


def numbers_of(stretches):
    return [number for number in WIDE if has(stretches, number)]


def stretches_of(found):
    """The stretches of the numbers of WIDE; those that reach an end of it have no end there."""
    rows = []
    for number in WIDE:
        if number in found:
            if rows and rows[-1][1] == number - 1:
                rows[-1] = (rows[-1][0], number)
            else:
                rows.append((number, number))
    return [(None if low == WIDE[0] else low, None if high == WIDE[-1] else high) for low, high in rows]


class AgainstAllNumbers(Case):
    def test_stretches(self):
        for told in drawn(161, 300):
            window = Window(told)
            expected = stretches_of(numbers_of(told))
            self.same(window.stretches, expected)
            self.same([list(window), [stretch for stretch in window]], [expected, expected])
            self.same([number for number in WIDE if number in window], numbers_of(told))
            for other in (told[::-1], tuple(told), told + told, told[1:] + told[:1]):
                self.assertIs(Window(other) == window, True)

    def test_operators(self):
        rows = drawn(162, 60)
        for one in rows:
            for other in rows[::3]:
                first, second = numbers_of(one), numbers_of(other)
                for left, right in ((Window(one), Window(other)), (Window(tuple(one)), Window(other[::-1]))):
                    both = [number for number in first if number in second]
                    either = [number for number in WIDE if number in first or number in second]
                    less = [number for number in first if number not in second]
                    self.same([(left & right).stretches, (left | right).stretches, (left - right).stretches],
                              [stretches_of(both), stretches_of(either), stretches_of(less)])
                    self.assertIs(type(left & right), Window)
                    self.assertIs(left & right == right & left, True)
                    self.assertIs(left | right == right | left, True)

    def test_all_other_integers(self):
        for told in drawn(163, 200):
            window = Window(told)
            self.same((-window).stretches, stretches_of([number for number in WIDE if not has(told, number)]))
            self.assertIs(-(-window) == window, True)
            self.assertIs(window | -window == Window([(None, None)]), True)
            self.assertIs(window & -window == Window([]), True)

    def test_later(self):
        for told in drawn(164, 100):
            for days in (-5, -1, 0, 3):
                expected = [(None if low is None else low + days, None if high is None else high + days)
                            for low, high in Window(told).stretches]
                self.same([(Window(told) + days).stretches, (days + Window(told)).stretches], [expected, expected])


class Told(Case):
    def test_joined(self):
        for told, expected in (([], []), ([(None, None)], [(None, None)]), ([(0, 0)], [(0, 0)]),
                               ([(1, 2), (0, 0)], [(0, 2)]), ([(2, 3), (0, 0)], [(0, 0), (2, 3)]),
                               ([(0, 9), (3, 4)], [(0, 9)]), ([(3, 4), (0, 9)], [(0, 9)]), ([(0, 4), (3, 9)], [(0, 9)]),
                               ([(None, 3), (4, None)], [(None, None)]),
                               ([(None, 3), (5, None)], [(None, 3), (5, None)]),
                               ([(5, None), (None, 3), (4, 4)], [(None, None)]), ([(None, 3), (None, 7)], [(None, 7)]),
                               ([(None, 7), (None, 3)], [(None, 7)]), ([(3, None), (1, None)], [(1, None)]),
                               ([(1, None), (3, 4)], [(1, None)]),
                               ([(None, -5), (-2, -2), (-9, -8)], [(None, -5), (-2, -2)]),
                               ([(-BIG, BIG), (BIG + 1, None)], [(-BIG, None)])):
            self.same(Window(told).stretches, expected)
            self.same(Window(stretches=tuple(told)).stretches, expected)

    def test_repr(self):
        self.same(repr(Window([(10, 12), (None, -1)])), "Window([(None, -1), (10, 12)])")
        self.same([repr(Window([])), str(Window([(None, None)]))], ["Window([])", "Window([(None, None)])"])
        self.same(repr(Window([(3, 4), (5, 6)])), "Window([(3, 6)])")

    def test_in_for_any_value(self):
        window, every = Window([(0, 3), (7, None)]), Window([(None, None)])
        for value in (0, 3, 7, BIG):
            self.assertIs(value in window, True)
        for value in (-1, 4, 6, -BIG):
            self.assertIs(value in window, False)
        for value in odd_but(int) + [(0, 3), "0", Window([(0, 3)])]:
            self.assertIs(value in window, False)
            self.assertIs(value in every, False)
        self.same([True in every, False in every, 1 in every, 0 in every], [False, False, True, True])
        self.assertIs(0 in Window([]), False)

    def test_equal(self):
        self.assertIs(Window([(0, 3)]) == Window([(2, 3), (0, 1)]), True)
        self.assertIs(Window([(0, 3)]) != Window([(2, 3), (0, 1)]), False)
        for value in ODD_VALUES + [Window([]), Window([(0, 4)]), Window([(0, None)]), [(0, 3)], ((0, 3),), (0, 3)]:
            self.assertIs(Window([(0, 3)]) == value, False)
            self.assertIs(value == Window([(0, 3)]), False)

    def test_never_changes(self):
        told = [(0, 3)]
        window = Window(told)
        told.append((5, None))
        window.stretches.append((9, 9))
        self.same([window.stretches, list(window)], [[(0, 3)]] * 2)
        same = window
        window |= Window([(5, 6)])
        self.same([same.stretches, window.stretches], [[(0, 3)], [(0, 3), (5, 6)]])
        with self.assertRaises(AttributeError):
            window.stretches = []

    def test_iterated_over_twice_at_once(self):
        window = Window([(0, 1), (5, 6)])
        self.same([(one, other) for one in window for other in window],
                  [((0, 1), (0, 1)), ((0, 1), (5, 6)), ((5, 6), (0, 1)), ((5, 6), (5, 6))])


class Wrong(Case):
    def test_stretches(self):
        for value in ODD_VALUES:
            if not isinstance(value, (list, tuple)):
                self.raised(InvalidStretches, lambda: Window(value), position=None)
            self.raised(InvalidStretches, lambda: Window([value]), position=0)
            self.raised(InvalidStretches, lambda: Window(((0, 3), (None, None), value, None)), position=2)
            if value is not None and type(value) is not int:
                self.raised(InvalidStretches, lambda: Window([(0, 3), (0, value)]), position=1)
                self.raised(InvalidStretches, lambda: Window([(0, 3), (value, 0)]), position=1)
        for value in ([0, 3], (0,), (0, 3, 3), (4, 3), (0, -1), (True, 3), (0, True), (False, None), ("0", 3), 3, (),
                      {0: 3}):
            self.raised(InvalidStretches, lambda: Window([value]), position=0)
            self.raised(InvalidStretches, lambda: Window([(1, 1), value, value]), position=1)
        self.raised(InvalidStretches, lambda: Window((0, 3)), position=0)
        self.raised(InvalidStretches, lambda: Window(Window([(0, 3)])), position=None)

    def test_windows(self):
        window = Window([(0, 3)])
        others = [[(0, 3)], ((0, 3),), (0, 3), Calendar([], []), Back(Book(Calendar([], []), []))]
        for value in ODD_VALUES + others:
            for call in (lambda: window & value, lambda: window | value, lambda: window - value):
                try:
                    call()
                except InvalidWindow as found:
                    self.assertIs(found.value, value)
                else:
                    self.fail("InvalidWindow was not raised")
            self.same(window.stretches, [(0, 3)])

    def test_days(self):
        window = Window([(0, 3)])
        for value in (window, Window([])):
            self.raised(InvalidNumber, lambda: window + value, value=value)
        for value in odd_but(int) + [(0, 3), Calendar([], [])]:
            for call in (lambda: window + value, lambda: value + window):
                try:
                    call()
                except InvalidNumber as found:
                    self.assertIs(found.value, value)
                else:
                    self.fail("InvalidNumber was not raised")
        for value in (True, False):
            self.raised(InvalidNumber, lambda: window + value, value=value)
            self.raised(InvalidNumber, lambda: value + window, value=value)
        self.same([(window + BIG).stretches, (-BIG + window).stretches], [[(BIG, BIG + 3)], [(-BIG, 3 - BIG)]])
