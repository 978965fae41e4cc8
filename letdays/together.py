"""What can be on together: some deals on one day, and dates in which no two deals clash."""

from letdays.checks import check_some_names_of
from letdays.diaries import clashes
from letdays.errors import TooMany
from letdays.networks import clause_between, dates_in, ring_in, sum_of
from letdays.order import ahead_pairs
from letdays.pairs import word_of
from letdays.values import is_integer, is_list, is_moment, is_name

MOST_PAIRS = 6


def all_on(book, names):
    """Dates and a day on which all of these deals are on; None if there are none."""
    check_some_names_of(book, names)
    deals = [book[name] for name in names]
    asked = [clause_between(one.begin, other.end) for one in deals for other in deals]
    dates = dates_in(book.calendar.moments(), book.clauses() + asked)
    if dates is None:
        return None
    return (dates, max([deal.days(dates)[0] for deal in deals]))


def is_together_paper(book, names, value):
    """Whether any value is a tuple of dates of the book and a day on which all of these deals are on."""
    check_some_names_of(book, names)
    if not isinstance(value, tuple) or len(value) != 2:
        return False
    dates, day = value
    if dates not in book.full() or not is_integer(day):
        return False
    return all([book[name].is_on(dates, day) for name in names])


def first_apart(book, names):
    """The least sorted tuple of two of these deals that are never together; None if there is none."""
    check_some_names_of(book, names)
    apart = [pair for pair in pairs_of(names) if word_in(book, pair) == "never"]
    return apart[0] if len(apart) > 0 else None


def are_surely_on(book, names):
    """Whether in all dates there is a day on which all of these deals are on."""
    check_some_names_of(book, names)
    # Stretches of days that meet two by two have a day in common.
    return all([word_in(book, pair) == "surely" for pair in pairs_of(names)])


def pairs_of(names):
    """The sorted list of the sorted tuples of two of these names."""
    return [(one, other) for one in sorted(names) for other in sorted(names) if one < other]


def word_in(book, pair):
    """The word of the two deals with these names."""
    return word_of(book.full(), book[pair[0]], book[pair[1]])


def is_safe(book):
    """Whether no two deals of the book can clash."""
    return len(open_pairs(book)) == 0


def open_pairs(book):
    """The sorted list of the tuples of names of deals that can clash."""
    ahead = ahead_pairs(book)
    return [pair for pair in book.touching() if pair not in ahead and pair[::-1] not in ahead]


def is_quiet(book, dates):
    """Whether no two deals of the book clash in dates."""
    return len(clashes(book, dates)) == 0


def quiet_dates(book):
    """Dates in which no two deals clash; None if there are none."""
    pairs = open_pairs(book)
    check_few(pairs)
    return dates_apart_by(book, pairs, book.clauses())


def tree(book):
    """A tree that shows that no dates are quiet; None if some are."""
    pairs = open_pairs(book)
    check_few(pairs)
    if dates_apart_by(book, pairs, book.clauses()) is not None:
        return None
    return tree_by(book, pairs, book.clauses())


def check_few(pairs):
    """Raise TooMany for more open pairs than are gone through."""
    if len(pairs) > MOST_PAIRS:
        raise TooMany("pairs", MOST_PAIRS)


def putting_ahead(book, one, other):
    """The clause that puts one deal ahead of the other one."""
    return clause_between(book[one].end, book[other].begin, -1)


def dates_apart_by(book, pairs, clauses):
    """Dates that keep the clauses, with one of each of these pairs ahead of the other; None if there are none."""
    dates = dates_in(book.calendar.moments(), clauses)
    if dates is None or len(pairs) == 0:
        return dates
    one, other = pairs[0]
    found = dates_apart_by(book, pairs[1:], clauses + [putting_ahead(book, one, other)])
    if found is not None:
        return found
    return dates_apart_by(book, pairs[1:], clauses + [putting_ahead(book, other, one)])


def tree_by(book, pairs, clauses):
    """A tree of these clauses and pairs, where no dates keep the clauses with the pairs apart."""
    ring = ring_in(book.calendar.moments(), clauses)
    if ring is not None:
        return ring
    one, other = pairs[0]
    first = tree_by(book, pairs[1:], clauses + [putting_ahead(book, one, other)])
    second = tree_by(book, pairs[1:], clauses + [putting_ahead(book, other, one)])
    return (one, other, first, second)


def is_tree(book, value):
    """Whether any value is a tree that shows that no dates are quiet."""
    return is_tree_by(book, open_pairs(book), book.clauses(), value)


def is_tree_by(book, pairs, clauses, value):
    """Whether any value is a tree of these open pairs, with these clauses known."""
    if not is_fork(pairs, value):
        return is_round(clauses, value)
    one, other, first, second = value
    if not is_tree_by(book, pairs, clauses + [putting_ahead(book, one, other)], first):
        return False
    return is_tree_by(book, pairs, clauses + [putting_ahead(book, other, one)], second)


def is_fork(pairs, value):
    """Whether any value is a tuple of an open pair and two more parts."""
    if not isinstance(value, tuple) or len(value) != 4:
        return False
    return is_name(value[0]) and is_name(value[1]) and (value[0], value[1]) in pairs


def is_round(clauses, value):
    """Whether any value is a list of these clauses, each once, that come round with a sum below 0."""
    if not is_list(value) or not all([is_step(clause) and clause in clauses for clause in value]):
        return False
    if len(set(list(value))) != len(value) or sum_of(value) >= 0:
        return False
    return all([value[at - 1][1] == value[at][0] for at in range(len(value))])


def is_step(value):
    """Whether any value is a tuple of two moments, the same one twice or not, and an INTEGER."""
    if not isinstance(value, tuple) or len(value) != 3:
        return False
    return is_moment(value[0]) and is_moment(value[1]) and is_integer(value[2])
