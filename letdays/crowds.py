"""Crowds, chains and rosters: how many deals can be on at once, and on how many screens all can be shown."""

from letdays.chains import are_names_of, chains_over, heaviest_chain, heaviest_crowd, heights_by
from letdays.chains import is_chain_of, is_crowd_of
from letdays.checks import check_dates_of, check_integer, check_names_of, check_position
from letdays.errors import UnknownDeal
from letdays.order import ahead_pairs
from letdays.together import all_on, is_together_paper
from letdays.values import is_list, is_name


def is_crowd(book, value):
    """Whether any value is a crowd of deals of the book."""
    return is_crowd_of(book.names(), ahead_pairs(book), value)


def is_chain(book, value):
    """Whether any value is a chain of deals of the book."""
    return is_chain_of(book.names(), ahead_pairs(book), value)


def is_roster(book, names, value):
    """Whether any value is a list of chains that have each of these deals in just one of them."""
    check_names_of(book, names)
    pairs = ahead_pairs(book)
    if not is_list(value) or not all([is_chain_of(names, pairs, chain) for chain in value]):
        return False
    return sorted([name for chain in value for name in chain]) == sorted(names)


def ones(names):
    """The weights by which names are counted."""
    return {name: 1 for name in names}


def greatest_crowd(book, names):
    """A crowd with the most of these deals; [] without names."""
    check_names_of(book, names)
    return heaviest_crowd(names, ones(names), ahead_pairs(book))


def least_roster(book, names):
    """A roster of these deals with the fewest chains."""
    check_names_of(book, names)
    return [chain for chain, _ in chains_over(names, ones(names), ahead_pairs(book))]


def most_at_once(book, names):
    """How many of these deals can be on at one day."""
    return len(greatest_crowd(book, names))


def heights(book, names):
    """The dict from these deals to the number of deals in a longest chain of them that ends with it."""
    check_names_of(book, names)
    return heights_by(names, ones(names), ahead_pairs(book))


def layers(book, names):
    """The lists of those of these deals with the height 1, 2, and so on."""
    table = heights(book, names)
    tops = sorted(set([table[name] for name in table]))
    return [[name for name in table if table[name] == top] for top in tops]


def longest_chain(book, names):
    """A chain with the most of these deals; [] without names."""
    check_names_of(book, names)
    return heaviest_chain(names, ones(names), ahead_pairs(book))


def at_most_paper(book, names):
    """A crowd, dates and a day on which all of it are on, and a roster with as many chains."""
    crowd = greatest_crowd(book, names)
    if len(crowd) == 0:
        return ([], None, None, [])
    dates, day = all_on(book, crowd)
    return (crowd, dates, day, least_roster(book, names))


def is_at_most_paper(book, names, value):
    """Whether any value is an at most paper of these deals."""
    check_names_of(book, names)
    if not isinstance(value, tuple) or len(value) != 4:
        return False
    crowd, dates, day, roster = value
    if not is_roster(book, names, roster) or not is_list(crowd) or len(crowd) != len(roster):
        return False
    if len(crowd) == 0:
        return dates is None and day is None
    if not are_names_of(names, crowd) or not is_crowd(book, crowd):
        return False
    return is_together_paper(book, crowd, (dates, day))


class Screens:
    """Screens that show deals by a least roster, whatever the dates. It never changes."""

    def __init__(self, book, names):
        self._paper = at_most_paper(book, names)
        self._book = book

    @property
    def book(self):
        """The book."""
        return self._book

    def paper(self):
        """The at most paper of the deals, with the roster of these screens."""
        crowd, dates, day, roster = self._paper
        found = None if dates is None else dict(dates)
        return (list(crowd), found, day, [list(chain) for chain in roster])

    def __len__(self):
        return len(self._paper[3])

    def screen_of(self, name):
        """The position of the chain that has the deal."""
        for at, chain in enumerate(self._paper[3]):
            if is_name(name) and name in chain:
                return at
        raise UnknownDeal(name)

    def __getitem__(self, at):
        check_position(at, len(self._paper[3]))
        return list(self._paper[3][at])

    def __iter__(self):
        raise TypeError("screens are not iterated over")

    def __contains__(self, x):
        return is_name(x) and any([x in chain for chain in self._paper[3]])

    def shown(self, dates, day):
        """The list of what each screen shows on this day: a name or None."""
        check_dates_of(self._book, dates)
        check_integer(day)
        return [self._shown_by(chain, dates, day) for chain in self._paper[3]]

    def _shown_by(self, chain, dates, day):
        """The name of the deal of the chain that is on; None if there is none."""
        for name in chain:
            if self._book[name].is_on(dates, day):
                return name
        return None
