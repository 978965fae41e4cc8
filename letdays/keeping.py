"""The dearest chains and crowds of a cell, and the papers that none is dearer."""

from letdays.chains import chains_over, crowds_over, heaviest_chain, heaviest_crowd, is_chain_of, is_crowd_of
from letdays.chains import weight_of
from letdays.order import ahead_pairs
from letdays.values import is_count, is_list, is_name


def prices_at(book, cell):
    """The dict from the names of the deals with this cell to their prices."""
    return {name: book[name].price for name in book.at(cell)}


def chain_price(book, cell):
    """The greatest price of a chain of the cell."""
    return weight_of(dearest_chain(book, cell), prices_at(book, cell))


def crowd_price(book, cell):
    """The greatest price of a crowd of the cell."""
    return weight_of(dearest_crowd(book, cell), prices_at(book, cell))


def dearest_chain(book, cell):
    """A chain of the cell with the greatest price."""
    return heaviest_chain(book.at(cell), prices_at(book, cell), ahead_pairs(book))


def dearest_crowd(book, cell):
    """A crowd of the cell with the greatest price."""
    return heaviest_crowd(book.at(cell), prices_at(book, cell), ahead_pairs(book))


def charge(book, cell):
    """A charge of the cell with the least total, and no number 0."""
    return crowds_over(book.at(cell), prices_at(book, cell), ahead_pairs(book))


def cover(book, cell):
    """A cover of the cell with the least total, and no number 0."""
    return chains_over(book.at(cell), prices_at(book, cell), ahead_pairs(book))


def is_charge(book, cell, value):
    """Whether any value is a charge of the cell."""
    prices = prices_at(book, cell)
    pairs = ahead_pairs(book)
    if not are_numbered(value):
        return False
    return all([is_crowd_of(prices, pairs, crowd) for crowd, _ in value]) and are_enough(prices, value)


def is_cover(book, cell, value):
    """Whether any value is a cover of the cell."""
    prices = prices_at(book, cell)
    pairs = ahead_pairs(book)
    if not are_numbered(value):
        return False
    return all([is_chain_of(prices, pairs, chain) for chain, _ in value]) and are_enough(prices, value)


def are_numbered(value):
    """Whether any value is a list of tuples of two elements, the second one a COUNT."""
    if not is_list(value):
        return False
    return all([isinstance(row, tuple) and len(row) == 2 and is_count(row[1]) for row in value])


def are_enough(prices, rows):
    """Whether for each deal the numbers of the rows that have it are together at least its price."""
    return all([sum([number for names, number in rows if name in names]) >= prices[name] for name in prices])


class Priced:
    """The dearest chain and crowd of a cell of a book; the cell can be set."""

    def __init__(self, book, cell):
        self._names = tuple(book.at(cell))
        self._book = book
        self._cell = cell

    @property
    def book(self):
        """The book."""
        return self._book

    @property
    def cell(self):
        """The cell."""
        return self._cell

    @cell.setter
    def cell(self, value):
        self._names = tuple(self._book.at(value))
        self._cell = value

    def use(self, cell):
        """Set the cell to another one."""
        self.cell = cell

    def prices(self):
        """The tuple of the greatest prices of a chain and of a crowd."""
        return (chain_price(self._book, self._cell), crowd_price(self._book, self._cell))

    def __len__(self):
        return len(self._names)

    def __contains__(self, x):
        return is_name(x) and x in self._names

    def __iter__(self):
        return iter(self._names)

    def papers(self):
        """The tuple of a dearest chain, a charge, a dearest crowd and a cover."""
        book, cell = self._book, self._cell
        return (dearest_chain(book, cell), charge(book, cell), dearest_crowd(book, cell), cover(book, cell))

    def __eq__(self, other):
        if not isinstance(other, Priced):
            return False
        return self._book == other._book and self._cell == other._cell
