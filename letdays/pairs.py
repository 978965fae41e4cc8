"""Two deals of a book: whether they may be on together, and the papers that show it."""

from letdays.closing import row, span
from letdays.errors import SameDeal
from letdays.networks import clause_between, dates_in, sum_of
from letdays.values import is_name


def word(book, one, other):
    """Whether two deals are on together: "never", "perhaps" or "surely"."""
    first, second = book[one], book[other]
    return word_of(book.full(), first, second)


def clash(book, one, other):
    """The word of two different deals; "apart" if they do not touch."""
    first, second = book[one], book[other]
    if one == other:
        raise SameDeal(one)
    return word_of(book.full(), first, second) if first.touches(second) else "apart"


def words(book):
    """The dict from all sorted tuples of two names to their words."""
    full = book.full()
    return {(one.name, other.name): word_of(full, one, other)
            for one in book for other in book if one.name < other.name}


def reach(book, one, other):
    """The greatest number of days by which the end of one is behind the begin of other; None without end."""
    first, second = book[one], book[other]
    return most_behind(book.full(), first.end, second.begin)


def apart_paper(book, one, other):
    """The paper that one of two deals has surely ended when the other one begins; None if it is not so."""
    first, second = book[one], book[other]
    full = book.full()
    for ahead, behind in ((first, second), (second, first)):
        if is_surely_ahead(full, ahead, behind):
            return (ahead.name, behind.name, row(full, ahead.end[0], behind.begin[0]))
    return None


def together_paper(book, one, other):
    """Dates and a day on which both deals are on; None if there are none."""
    return both_on(book, book[one], book[other])


def both_on(book, first, second):
    """Dates of the book and a day on which both deals are on, which need not be deals of it; None if there are none."""
    asked = [clause_between(first.begin, second.end), clause_between(second.begin, first.end)]
    dates = dates_in(book.calendar.moments(), book.clauses() + asked)
    if dates is None:
        return None
    return (dates, max(first.days(dates)[0], second.days(dates)[0]))


def surely_paper(book, one, other):
    """Two rows that show that neither deal begins behind the other's end; None if it is not so."""
    first, second = book[one], book[other]
    full = book.full()
    if word_of(full, first, second) != "surely":
        return None
    return (row(full, first.begin[0], second.end[0]), row(full, second.begin[0], first.end[0]))


def is_apart_paper(book, one, other, value):
    """Whether any value is an apart paper of two deals, either of them ahead."""
    first, second = book[one], book[other]
    if not isinstance(value, tuple) or len(value) != 3:
        return False
    for ahead, behind in ((first, second), (second, first)):
        if is_name(value[0]) and is_name(value[1]) and (ahead.name, behind.name) == (value[0], value[1]):
            most = row_span(book.full(), ahead.end, behind.begin, value[2])
            return most is not None and most < 0
    return False


def is_surely_paper(book, one, other, value):
    """Whether any value is a surely paper of two deals."""
    first, second = book[one], book[other]
    if not isinstance(value, tuple) or len(value) != 2:
        return False
    full = book.full()
    forth = row_span(full, first.begin, second.end, value[0])
    back = row_span(full, second.begin, first.end, value[1])
    return forth is not None and forth <= 0 and back is not None and back <= 0


def dates_apart(book, one, other):
    """Dates in which two deals are not on together on any day; None if they surely are."""
    first, second = book[one], book[other]
    for ahead, behind in ((first, second), (second, first)):
        asked = clause_between(ahead.end, behind.begin, -1)
        dates = dates_in(book.calendar.moments(), book.clauses() + [asked])
        if dates is not None:
            return dates
    return None


def word_of(full, one, other):
    """The word of two deals of the book with this full calendar."""
    if is_surely_ahead(full, one, other) or is_surely_ahead(full, other, one):
        return "never"
    if is_never_behind(full, one.begin, other.end) and is_never_behind(full, other.begin, one.end):
        return "surely"
    return "perhaps"


def is_surely_ahead(full, one, other):
    """Whether the end of one is ahead of the begin of the other one in all dates."""
    most = most_behind(full, one.end, other.begin)
    return most is not None and most < 0


def is_never_behind(full, point, other):
    """Whether the point is not behind the other one in any dates."""
    most = most_behind(full, point, other)
    return most is not None and most <= 0


def most_behind(full, point, other):
    """The greatest number of days by which the point is behind the other one; None if there is none."""
    _, most = span(full, point, other)
    return most


def row_span(full, point, other, value):
    """How many days behind the other point this one is at most, by a row; None for a value that is no such row."""
    if not full.is_row(point[0], other[0], value):
        return None
    return sum_of(value) + point[1] - other[1]
