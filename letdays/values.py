"""The plain values of the document: integers, counts, names, moments, points, cells and lists."""

FIXED = "day"
MOST_LETTERS = 6


def is_integer(value):
    """Whether any value is an INTEGER; True and False are none."""
    return isinstance(value, int) and not isinstance(value, bool)


def is_count(value):
    """Whether any value is a COUNT."""
    return is_integer(value) and value >= 0


def is_list(value):
    """Whether any value may stand where a list is asked for."""
    return isinstance(value, (list, tuple))


def is_name(value):
    """Whether any value is a NAME."""
    if not isinstance(value, str) or value == FIXED:
        return False
    return 1 <= len(value) <= MOST_LETTERS and all(["a" <= letter <= "z" for letter in value])


def is_moment(value):
    """Whether any value is a NAME or `day`."""
    return is_name(value) or (isinstance(value, str) and value == FIXED)


def is_moment_of(value, moments):
    """Whether any value is one of these moments or `day`."""
    return isinstance(value, str) and (value == FIXED or value in moments)


def is_point(value):
    """Whether any value is a POINT of any moment."""
    return isinstance(value, tuple) and len(value) == 2 and is_moment(value[0]) and is_integer(value[1])


def is_point_of(value, moments):
    """Whether any value is a POINT of one of these moments or of `day`."""
    return is_point(value) and is_moment_of(value[0], moments)


def is_cell(value):
    """Whether any value is a tuple of three NAMES."""
    return isinstance(value, tuple) and len(value) == 3 and all([is_name(part) for part in value])


def first_wrong_name(names):
    """The position of the first element that is no NAME, or stands earlier; None if there is none."""
    for at in range(len(names)):
        if not is_name(names[at]) or names[at] in names[:at]:
            return at
    return None


def are_names(values):
    """Whether all of these values are NAMES."""
    return all([is_name(value) for value in values])


def are_sorted(values):
    """Whether each of these names, or numbers, is greater than the one before it."""
    return all([values[at - 1] < values[at] for at in range(1, len(values))])


def lots_of(names):
    """All sorted tuples of some of these names, the empty one first."""
    found = [()]
    for name in sorted(names):
        found = found + [lot + (name,) for lot in found]
    return found


def day_of(dates, moment):
    """The day of a moment, or of `day`, in dates."""
    return 0 if moment == FIXED else dates[moment]
