"""What is on in dates of a book: diaries of cells, the busiest day, and clashes."""

from letdays.checks import check_cell, check_dates_of, check_integer


def is_dates(book, value):
    """Whether any value is dates of the book."""
    return value in book.full()


def on_at(book, dates, cell, day):
    """The sorted list of the names of the deals with this cell that are on at this day."""
    check_dates_of(book, dates)
    check_cell(cell)
    check_integer(day)
    return names_on(deals_at(book, cell), dates, day)


def diary(book, dates, cell):
    """The longest stretches of days on which the same deals with this cell are on, and their names."""
    check_dates_of(book, dates)
    check_cell(cell)
    deals = deals_at(book, cell)
    stretches = [deal.days(dates) for deal in deals]
    # Only on these days the deals that are on are others than the day before.
    turns = sorted(set([first for first, _ in stretches] + [last + 1 for _, last in stretches]))
    parts = [(turns[at], turns[at + 1] - 1) for at in range(len(turns) - 1)]
    rows = [(first, last, names_on(deals, dates, first)) for first, last in parts]
    return [(first, last, names) for first, last, names in rows if len(names) > 0]


def busiest(book, dates, cell):
    """How many deals with this cell are on at most at one day, and the earliest such day."""
    check_dates_of(book, dates)
    check_cell(cell)
    deals = deals_at(book, cell)
    most = (0, None)
    # The number grows only on a day on which a deal begins.
    for day in sorted([deal.days(dates)[0] for deal in deals]):
        count = len(names_on(deals, dates, day))
        if count > most[0]:
            most = (count, day)
    return most


def clashes(book, dates):
    """The sorted list of the pairs of deals that clash, with the first and the last day on which both are on."""
    check_dates_of(book, dates)
    found = []
    for one, other in book.touching():
        first, last = days_of_both(book[one], book[other], dates)
        if first <= last:
            found.append((one, other, first, last))
    return found


def deals_at(book, cell):
    """The deals with this cell, by sorted names."""
    return [deal for deal in book if cell in deal]


def names_on(deals, dates, day):
    """The names of those of the deals that are on at this day."""
    return [deal.name for deal in deals if deal.is_on(dates, day)]


def days_of_both(one, other, dates):
    """The first and the last day on which both are on; the last one is ahead of the first if there is none."""
    one_first, one_last = one.days(dates)
    other_first, other_last = other.days(dates)
    return (max(one_first, other_first), min(one_last, other_last))
