"""Rights to begin earlier or to end later, and by how much deals and clauses of a safe book can give way."""

from letdays.books import Book, with_own_clauses
from letdays.calendars import Calendar
from letdays.checks import check_count, check_deal_of, check_position
from letdays.deals import deal_like
from letdays.errors import InvalidRights, NotSafe
from letdays.order import ahead_pairs, least_gap, least_gaps
from letdays.pairs import both_on
from letdays.together import open_pairs
from letdays.values import is_count, is_integer


def slack(book, one, other):
    """How many days can be put between one and other such that one is surely ahead still; None if it is not."""
    return least_gap(book, one, other)


def slacks(book):
    """The dict from the tuples of names of which the first one bars the second one to their slacks."""
    touching = book.touching()
    gaps = least_gaps(book)
    return {pair: gaps[pair] for pair in gaps if (min(pair), max(pair)) in touching}


def is_right(value):
    """Whether any value is a tuple of two COUNTS."""
    return isinstance(value, tuple) and len(value) == 2 and is_count(value[0]) and is_count(value[1])


def is_rights(book, value):
    """Whether any value is rights of the book."""
    return isinstance(value, dict) and all([name in book and is_right(value[name]) for name in value])


def check_rights(book, rights):
    """Raise InvalidRights unless these are rights of the book."""
    if not is_rights(book, rights):
        raise InvalidRights(rights)


def check_safe(book):
    """Raise NotSafe, with the least open pair, unless the book is safe."""
    pairs = open_pairs(book)
    if len(pairs) > 0:
        raise NotSafe(pairs[0][0], pairs[0][1])


def with_rights(book, rights):
    """The book with all rights used."""
    check_rights(book, rights)
    calendar = with_own_clauses(book, rights)
    deals = deals_using(book, rights)
    return Book(calendar, [deals[name] for name in deals])


def deals_using(book, uses):
    """The dict from the names of the deals to the deals, those that have a use so much longer."""
    return {deal.name: longer(deal, uses.get(deal.name, (0, 0))) for deal in book}


def longer(deal, use):
    """The deal that begins so many days earlier, and ends so many days later, as the use tells."""
    begin = (deal.begin[0], deal.begin[1] - use[0])
    end = (deal.end[0], deal.end[1] + use[1])
    return deal_like(deal, deal.lands, begin, end)


def is_safe_with(book, rights):
    """Whether the book is safe, whatever number of its days each right is used for."""
    return unsafe_use(book, rights) is None


def unsafe_use(book, rights):
    """Uses of the rights, dates and a day on which two deals that touch are both on; None if there are none."""
    check_rights(book, rights)
    # What is on together by some use is so by all days of the rights, and the dates stay the same.
    deals = deals_using(book, rights)
    for one, other in book.touching():
        paper = both_on(book, deals[one], deals[other])
        if paper is not None:
            return ({name: rights[name] for name in sorted(rights)}, paper[0], paper[1])
    return None


def is_unsafe_use(book, rights, value):
    """Whether any value is uses of the rights, dates and a day on which two deals that touch are both on."""
    check_rights(book, rights)
    if not isinstance(value, tuple) or len(value) != 3:
        return False
    uses, dates, day = value
    if not are_uses(book, rights, uses) or dates not in book.full() or not is_integer(day):
        return False
    deals = deals_using(book, uses)
    return any([deals[one].is_on(dates, day) and deals[other].is_on(dates, day) for one, other in book.touching()])


def are_uses(book, rights, value):
    """Whether any value is a dict from just the names in these rights to tuples of COUNTS, none above its right."""
    if not is_rights(book, value) or sorted(value) != sorted(rights):
        return False
    return all([value[name][0] <= rights[name][0] and value[name][1] <= rights[name][1] for name in rights])


def room(book, name):
    """The most early and the most late days that the deal alone can have as a right; None for any number."""
    check_deal_of(book, name)
    check_safe(book)
    return room_by(slacks(book), name)


def rooms(book):
    """The dict from all names to their rooms."""
    check_safe(book)
    table = slacks(book)
    return {name: room_by(table, name) for name in book.names()}


def room_by(table, name):
    """The least slack of the deals that bar this one, and of those that it bars; None without any."""
    early = [table[pair] for pair in table if pair[1] == name]
    late = [table[pair] for pair in table if pair[0] == name]
    return (min(early, default=None), min(late, default=None))


def play(book, position):
    """By how many days the clause of the calendar can be loosened with the book still safe; None for any number."""
    table = slacks_by(book, position)
    return min([table[pair] for pair in table], default=None)


def tight_pair(book, position):
    """The least tuple of names that give way as soon as the play of the clause is used up; None without a play."""
    table = slacks_by(book, position)
    least = min([table[pair] for pair in table], default=None)
    return min([pair for pair in table if table[pair] == least], default=None)


def slacks_by(book, position):
    """The slacks of the pairs of a safe book that are not kept apart without the clause at this position."""
    check_position(position, len(book.calendar))
    check_safe(book)
    kept = ahead_pairs(book.with_calendar(book.calendar.without(position)))
    table = slacks(book)
    return {pair: table[pair] for pair in table if pair not in kept}


def loosened(book, position, days):
    """The book with so many days added to a clause of the calendar; a clause that stands twice then is left once."""
    check_position(position, len(book.calendar))
    check_count(days)
    clauses = book.calendar.clauses()
    one, other, number = clauses[position]
    clauses[position] = (one, other, number + days)
    kept = [clauses[at] for at in range(len(clauses)) if clauses[at] not in clauses[:at]]
    return book.with_calendar(Calendar(book.calendar.moments(), kept))
