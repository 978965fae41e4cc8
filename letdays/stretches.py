"""Stretches: tuples (low, high) of the integers from low to high; None stands for no end.

Stretches are JOINED if they are sorted by their numbers, and no two have a number or neighbouring numbers in common.
"""

from letdays.values import is_integer


def is_stretch(value):
    """Whether any value is a stretch."""
    if not isinstance(value, tuple) or len(value) != 2:
        return False
    if not all([end is None or is_integer(end) for end in value]):
        return False
    return value[0] is None or value[1] is None or value[0] <= value[1]


def has_number(stretch, number):
    """Whether the stretch has the number."""
    low, high = stretch
    return (low is None or low <= number) and (high is None or number <= high)


def is_within(stretch, other):
    """Whether the other stretch has all numbers of the first one."""
    low, high = stretch
    if (low is None and other[0] is not None) or (high is None and other[1] is not None):
        return False
    return (low is None or has_number(other, low)) and (high is None or has_number(other, high))


def low_first(stretch):
    """By this key stretches are sorted: those without a least number stand first."""
    return (0, 0) if stretch[0] is None else (1, stretch[0])


def joined(stretches):
    """The joined stretches of all numbers of these."""
    found = []
    for low, high in sorted(stretches, key=low_first):
        if len(found) > 0 and is_reached(found[-1], low):
            found[-1] = (found[-1][0], later_end(found[-1][1], high))
        else:
            found.append((low, high))
    return found


def is_reached(stretch, low):
    """Whether a stretch that begins with this number, and no earlier, is joined with the stretch."""
    return low is None or stretch[1] is None or low <= stretch[1] + 1


def later_end(one, other):
    """The later one of two ends."""
    return None if one is None or other is None else max(one, other)


def other_numbers(stretches):
    """The joined stretches of all numbers that these joined ones do not have."""
    found = []
    since = None
    for low, high in stretches:
        if low is not None:
            found.append((since, low - 1))
        if high is None:
            return found
        since = high + 1
    found.append((since, None))
    return found


def first_room(stretches, since, long):
    """The least number from since on from which so many are in one of these joined stretches; None if there is none."""
    for low, high in stretches:
        first = since if low is None else max(low, since)
        if high is None or first + long - 1 <= high:
            return first
    return None
