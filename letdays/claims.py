"""Claims about the book of a text, and the papers that show that they are true."""

from letdays.buying import full_loads, is_back, is_loads, least_back, price_of, total_of
from letdays.chains import is_chain_of, weight_of
from letdays.crowds import at_most_paper, is_at_most_paper
from letdays.errors import InvalidClaim, InvalidText, NotTrue
from letdays.keeping import charge, dearest_chain, is_charge, prices_at
from letdays.order import ahead_pairs
from letdays.pairs import apart_paper, is_apart_paper, is_surely_paper, surely_paper, together_paper
from letdays.texts import read_book
from letdays.together import is_safe, is_together_paper, open_pairs
from letdays.values import is_cell, is_count, is_list

# What a claim of each kind has beside its kind and its book.
PARTS = {"never": ("pair",), "may": ("pair",), "surely": ("pair",), "safe": (), "unsafe": (),
         "crowd": ("cell", "most"), "price": ("least",), "dearest": ("cell", "price")}


def book_in(text):
    """The book of any text; None for any value that is no text of one."""
    try:
        return read_book(text)
    except InvalidText:
        return None


def is_claim(value):
    """Whether any value is a claim."""
    if not isinstance(value, dict) or "claim" not in value or "book" not in value:
        return False
    kind = value["claim"]
    if not isinstance(kind, str) or kind not in PARTS or len(value) != 2 + len(PARTS[kind]):
        return False
    book = book_in(value["book"])
    return book is not None and all([part in value and is_part(book, part, value[part]) for part in PARTS[kind]])


def is_part(book, part, value):
    """Whether any value can be this part of a claim about the book."""
    if part == "pair":
        return is_pair(book, value)
    return is_cell(value) if part == "cell" else is_count(value)


def is_pair(book, value):
    """Whether any value is a list of two different names of deals of the book."""
    return is_list(value) and len(value) == 2 and all([name in book for name in value]) and value[0] != value[1]


def is_tuple_of(value, many):
    """Whether any value is a tuple of so many elements."""
    return isinstance(value, tuple) and len(value) == many


def never_paper(book, claim):
    """An apart paper of the pair; None if the claim is not true, as in each function for papers."""
    one, other = claim["pair"]
    return apart_paper(book, one, other)


def is_never_paper(book, claim, value):
    """Whether any value is a paper of the true claim, as in each function for judging."""
    one, other = claim["pair"]
    return is_apart_paper(book, one, other, value)


def may_paper(book, claim):
    """A together paper of the pair."""
    one, other = claim["pair"]
    return together_paper(book, one, other)


def is_may_paper(book, claim, value):
    """Whether any value is a together paper of the pair."""
    return is_together_paper(book, claim["pair"], value)


def sure_paper(book, claim):
    """A surely paper of the pair."""
    one, other = claim["pair"]
    return surely_paper(book, one, other)


def is_sure_paper(book, claim, value):
    """Whether any value is a surely paper of the pair."""
    one, other = claim["pair"]
    return is_surely_paper(book, one, other, value)


def safe_paper(book, _):
    """The dict from all pairs that touch to apart papers."""
    if not is_safe(book):
        return None
    return {(one, other): apart_paper(book, one, other) for one, other in book.touching()}


def is_safe_paper(book, _, value):
    """Whether any value is a dict from just the pairs that touch to apart papers."""
    pairs = book.touching()
    if not isinstance(value, dict) or len(value) != len(pairs):
        return False
    return all([pair in value and is_apart_paper(book, pair[0], pair[1], value[pair]) for pair in pairs])


def unsafe_paper(book, _):
    """Two deals that touch, dates and a day on which both are on."""
    pairs = open_pairs(book)
    if len(pairs) == 0:
        return None
    one, other = pairs[0]
    dates, day = together_paper(book, one, other)
    return (one, other, dates, day)


def is_unsafe_paper(book, _, value):
    """Whether any value is two deals that touch, dates and a day on which both are on."""
    if not is_tuple_of(value, 4) or not is_pair(book, value[:2]):
        return False
    return book[value[0]].touches(book[value[1]]) and is_together_paper(book, value[:2], value[2:])


def crowd_paper(book, claim):
    """An at most paper of the deals with the cell."""
    paper = at_most_paper(book, book.at(claim["cell"]))
    return paper if len(paper[0]) == claim["most"] else None


def is_crowd_paper(book, claim, value):
    """Whether any value is an at most paper of the deals with the cell."""
    return is_at_most_paper(book, book.at(claim["cell"]), value)


def price_paper(book, claim):
    """The least back, and loads with its price as their total, or None if there are none."""
    back = least_back(book)
    return (back, full_loads(book)) if price_of(book, back) == claim["least"] else None


def is_price_paper(book, claim, value):
    """Whether any value is a back of the price, and loads with this total, or None if there are none."""
    if not is_tuple_of(value, 2) or not is_back(book, value[0]) or price_of(book, value[0]) != claim["least"]:
        return False
    if value[1] is None:
        return full_loads(book) is None
    return is_loads(book, value[1]) and total_of(value[1]) == claim["least"]


def dearest_paper(book, claim):
    """A chain of the cell and a charge of the same number."""
    cell = claim["cell"]
    chain = dearest_chain(book, cell)
    return (chain, charge(book, cell)) if weight_of(chain, prices_at(book, cell)) == claim["price"] else None


def is_dearest_paper(book, claim, value):
    """Whether any value is a chain of the cell and a charge, both of the price."""
    cell, price = claim["cell"], claim["price"]
    if not is_tuple_of(value, 2) or not is_charge(book, cell, value[1]):
        return False
    return sum([number for _, number in value[1]]) == price and is_chain_for(book, cell, price, value[0])


def is_chain_for(book, cell, price, value):
    """Whether any value is a chain of the cell of this price, or an empty list where no deal has the cell."""
    prices = prices_at(book, cell)
    if len(prices) == 0:
        return is_list(value) and len(value) == 0
    return is_chain_of(prices, ahead_pairs(book), value) and weight_of(value, prices) == price


PAPERS = {"never": never_paper, "may": may_paper, "surely": sure_paper, "safe": safe_paper,
          "unsafe": unsafe_paper, "crowd": crowd_paper, "price": price_paper, "dearest": dearest_paper}

JUDGES = {"never": is_never_paper, "may": is_may_paper, "surely": is_sure_paper, "safe": is_safe_paper,
          "unsafe": is_unsafe_paper, "crowd": is_crowd_paper, "price": is_price_paper, "dearest": is_dearest_paper}


def paper_or_none(claim):
    """A paper of the claim; None if it is not true."""
    if not is_claim(claim):
        raise InvalidClaim(claim)
    find = PAPERS[claim["claim"]]
    return find(read_book(claim["book"]), claim)


def is_true(claim):
    """Whether the claim is true."""
    return paper_or_none(claim) is not None


def paper_for(claim):
    """A paper of the claim."""
    paper = paper_or_none(claim)
    if paper is None:
        raise NotTrue()
    return paper


def is_paper(claim, value):
    """Whether any value is a paper of the claim; none is if it is not true."""
    if not is_true(claim):
        return False
    judge = JUDGES[claim["claim"]]
    return judge(read_book(claim["book"]), claim, value)
