"""What has to be bought back so that no two deals can clash, and what it costs."""

from letdays.checks import check_deal_of, check_names_of
from letdays.books import Book, with_own_clauses
from letdays.errors import InvalidPaper
from letdays.flows import greatest_amounts
from letdays.together import open_pairs
from letdays.values import are_sorted, is_count, is_list, is_name, lots_of


def is_back(book, value):
    """Whether any value is a back of the book."""
    if not is_list(value) or not all([name in book for name in value]) or not are_sorted(value):
        return False
    return are_met(open_pairs(book), value)


def are_met(pairs, names):
    """Whether each of these pairs has one of these names."""
    return all([one in names or other in names for one, other in pairs])


def price_of(book, names):
    """The prices of these deals together."""
    return sum([book[name].price for name in names])


def backs_of(book):
    """The sorted list of tuples (price, number of names, back) of all backs."""
    pairs = open_pairs(book)
    lots = [list(lot) for lot in lots_of(book.names())]
    return sorted([(price_of(book, lot), len(lot), lot) for lot in lots if are_met(pairs, lot)])


def least_back(book):
    """The least back."""
    return backs_of(book)[0][2]


def least_price(book):
    """The price of the least back."""
    return backs_of(book)[0][0]


def spare_backs(book):
    """Yield all spare backs, from the least one on."""
    pairs = open_pairs(book)
    backs = [back for _, _, back in backs_of(book)]
    for back in backs:
        if is_spare(pairs, back):
            yield back


def is_spare(pairs, back):
    """Whether the back meets these pairs no more without any one of its names."""
    return not any([are_met(pairs, [other for other in back if other != name]) for name in back])


def premium(book, name):
    """The least price of the backs without the name, less that of those with it."""
    check_deal_of(book, name)
    backs = backs_of(book)
    dear = min([price for price, _, back in backs if name not in back])
    return dear - min([price for price, _, back in backs if name in back])


class Back:
    """Names of deals of a book that are to be bought back, enough or not. It never changes."""

    def __init__(self, book, names=()):
        check_names_of(book, names)
        self._book = book
        self._bought = tuple(sorted(names))

    @property
    def book(self):
        """The book."""
        return self._book

    @property
    def bought(self):
        """The sorted tuple of the names."""
        return self._bought

    @property
    def price(self):
        """The prices of these deals together."""
        return price_of(self._book, self._bought)

    def is_enough(self):
        """Whether the names are a back of the book."""
        return is_back(self._book, self._bought)

    def left(self):
        """The book without these deals; their own clauses are further clauses of its calendar."""
        calendar = with_own_clauses(self._book, self._bought)
        return Book(calendar, [deal for deal in self._book if deal.name not in self._bought])

    def __or__(self, other):
        check_back(self._book, other)
        return Back(self._book, sorted(set(self._bought + other._bought)))

    def __and__(self, other):
        check_back(self._book, other)
        return Back(self._book, [name for name in self._bought if name in other._bought])

    def __sub__(self, other):
        check_back(self._book, other)
        return Back(self._book, [name for name in self._bought if name not in other._bought])

    def __len__(self):
        return len(self._bought)

    def __contains__(self, x):
        return is_name(x) and x in self._bought

    def __eq__(self, other):
        if not isinstance(other, Back):
            return False
        return self._book == other._book and self._bought == other._bought

    def __repr__(self):
        return f"Back({list(self._bought)!r})"


def check_back(book, value):
    """Raise InvalidPaper unless this is a Back of an equal book."""
    if not isinstance(value, Back) or value.book != book:
        raise InvalidPaper(value)


def is_loads(book, value):
    """Whether any value is loads of the book."""
    pairs = open_pairs(book)
    if not isinstance(value, dict) or len(value) != len(pairs):
        return False
    if not all([pair in value and is_count(value[pair]) for pair in pairs]):
        return False
    return all([sum([value[pair] for pair in pairs if deal.name in pair]) <= deal.price for deal in book])


def loads(book):
    """Loads with the price of the least back as their total; None of a book without sides."""
    return None if sides(book) is None else full_loads(book)


def full_loads(book):
    """Loads with the price of the least back as their total; None if there are none.

    Such loads have for each name of a least back just its price, and none of a pair with both names in it.
    So only the pairs with one name in it are to be looked at, whether the book has sides or not.
    """
    back = least_back(book)
    inner = {name: book[name].price for name in back}
    outer = {name: book[name].price for name in book.names() if name not in inner}
    pairs = open_pairs(book)
    links = {pair: pair if pair[0] in inner else pair[::-1] for pair in pairs if not are_all_in(inner, pair)}
    amounts = greatest_amounts(inner, outer, [links[pair] for pair in links])
    found = {pair: amounts[links[pair]] if pair in links else 0 for pair in pairs}
    return found if total_of(found) == price_of(book, back) else None


def are_all_in(table, names):
    """Whether each of the names is a key of the table."""
    return all([name in table for name in names])


def total_of(amounts):
    """The sum of all numbers of a dict."""
    return sum([amounts[key] for key in amounts])


def sides(book):
    """Two lists of all names, no open pair with both in one of them; None if there are none."""
    if odd_ring(book) is not None:
        return None
    paths = paths_by(book.names(), open_pairs(book))
    first = [name for name in book.names() if is_first(paths, name)]
    return (first, [name for name in book.names() if name not in first])


def is_first(paths, name):
    """Whether the name is on the side of the name from which its path comes."""
    return len(paths[name]) % 2 == 1


def odd_ring(book):
    """An odd ring; None if the book has sides."""
    pairs = open_pairs(book)
    paths = paths_by(book.names(), pairs)
    for one, other in pairs:
        if is_first(paths, one) == is_first(paths, other):
            # Both paths are shortest ones, so they have as many names; they part behind the last common one.
            at = len([name for name in paths[one] if name in paths[other]]) - 1
            return paths[one][at:] + paths[other][at + 1:][::-1]
    return None


def paths_by(names, pairs):
    """For each of the sorted names a shortest list by pairs from the least name that hangs together with it."""
    paths = {}
    for name in names:
        if name not in paths:
            further = paths_from(name, pairs)
            for other in further:
                paths[other] = further[other]
    return paths


def paths_from(name, pairs):
    """For each name that hangs together with this one a shortest list by pairs from this one."""
    paths = {name: [name]}
    waiting = [name]
    while len(waiting) > 0:
        at = waiting[0]
        waiting = waiting[1:]
        for other in [pair[1] if pair[0] == at else pair[0] for pair in pairs if at in pair]:
            if other not in paths:
                paths[other] = paths[at] + [other]
                waiting.append(other)
    return paths


def is_odd_ring(book, value):
    """Whether any value is an odd ring of the book."""
    if not is_list(value) or len(value) < 3 or len(value) % 2 == 0:
        return False
    if not all([name in book for name in value]) or len(set(list(value))) != len(value):
        return False
    pairs = open_pairs(book)
    return all([(min(value[at - 1], value[at]), max(value[at - 1], value[at])) in pairs for at in range(len(value))])


def to_buy(book, deal):
    """The sorted list of the names that must be bought back for a deal that is put to the book."""
    pairs = open_pairs(book.with_deal(deal))
    return sorted([one if other == deal.name else other for one, other in pairs if deal.name in (one, other)])
