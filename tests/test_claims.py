"""[92]: claims and their papers, against all dates of small books, and spoilt in one part."""

import itertools

from letdays.books import Book
from letdays.calendars import Calendar
from letdays.claims import is_claim, is_paper, is_true, paper_for
from letdays.errors import InvalidClaim, NotTrue
from letdays.pairs import is_apart_paper, word
from letdays.texts import text_of
from tests.support import Anything, Case, ODD_VALUES, ahead_by_hand, clashing_by_hand, crowds_by_hand, days_by_hand
from tests.support import chains_by_hand, deal, is_row_by_hand, lots_of, numbers, open_books, open_by_hand, safe_books
from tests.support import small_books, total, touching_by_hand
from tests.test_buying import meeting_book

CELL = ("f", "x", "w")


def claim(kind, book, **parts):
    return {"claim": kind, "book": text_of(book), **parts}


def plain():
    """A book of which a is never on with c, perhaps with b, surely with d; c and d have another land."""
    calendar = Calendar(["m"], [("day", "m", 0), ("m", "day", 5)])
    return Book(calendar, [deal("a", ("m", 0), ("m", 9), price=3), deal("b", ("day", 12), ("day", 20), price=4),
                           deal("c", ("m", 10), ("m", 20), "xy", price=5),
                           deal("d", ("day", 5), ("day", 5), "y", price=0)])


def every_claim(book, most):
    """All claims about a book, with numbers up to this one."""
    found = [claim(kind, book) for kind in ("safe", "unsafe")]
    found += [claim(kind, book, pair=list(pair)) for kind in ("never", "may", "surely")
              for pair in itertools.permutations(book.names(), 2)]
    for land, number in itertools.product("xyz", range(most + 1)):
        cell = ("f", land, "w")
        found += [claim("crowd", book, cell=cell, most=number), claim("dearest", book, cell=cell, price=number)]
    return found + [claim("price", book, least=number) for number in range(most + 1)]


def price(book, names):
    return sum(book[name].price for name in names)


def back_price(book, pairs):
    backs = [lot for lot in lots_of(book.names()) if all(one in lot or other in lot for one, other in pairs)]
    return min(price(book, back) for back in backs)


def is_true_by_hand(book, every, told):
    """Whether the claim is true, by all dates of the book."""
    kind = told["claim"]
    if kind in ("never", "may", "surely"):
        one, other = (book[name] for name in told["pair"])
        days = [days_by_hand(dates, one) & days_by_hand(dates, other) for dates in every]
        return {"never": not any(days), "may": any(days), "surely": all(days)}[kind]
    clashes = clashing_by_hand(book, every)
    if kind in ("safe", "unsafe"):
        return (kind == "safe") == (not clashes)
    if kind == "price":
        return back_price(book, clashes) == told["least"]
    names, ahead = book.at(told["cell"]), ahead_by_hand(book)
    if kind == "crowd":
        return max(map(len, crowds_by_hand(names, ahead)), default=0) == told["most"]
    return max((price(book, chain) for chain in chains_by_hand(names, ahead)), default=0) == told["price"]


def is_apart_by_hand(book, value):
    ahead, behind, row = value
    end, begin = book[ahead].end, book[behind].begin
    return is_row_by_hand(book.clauses(), end[0], begin[0], row) and total(row) + end[1] - begin[1] < 0


def has_loads_by_hand(book, pairs, number):
    """Whether some loads of the open pairs have this total."""
    def go_on(rest, left, number):
        if number == 0 or not rest:
            return number == 0
        one, other = rest[0]
        for many in range(min(left[one], left[other], number) + 1):
            if go_on(rest[1:], {**left, one: left[one] - many, other: left[other] - many}, number - many):
                return True
        return False
    return go_on(list(pairs), {name: book[name].price for name in book.names()}, number)


def is_paper_by_hand(book, told, value):
    """Whether a tuple of the right kind of parts is a paper of a true claim."""
    kind = told["claim"]
    if kind == "never":
        return sorted(value[:2]) == sorted(told["pair"]) and is_apart_by_hand(book, value)
    if kind == "may":
        return value[0] in book.full() and all(value[1] in days_by_hand(value[0], book[name]) for name in told["pair"])
    if kind == "surely":
        one, other = (book[name] for name in told["pair"])
        return all(is_row_by_hand(book.clauses(), begin[0], end[0], row) and total(row) + begin[1] - end[1] <= 0
                   for begin, end, row in ((one.begin, other.end, value[0]), (other.begin, one.end, value[1])))
    if kind == "safe":
        return list(value) == touching_by_hand(book) and all(is_apart_by_hand(book, paper) for paper in value.values())
    if kind == "unsafe":
        return tuple(sorted(value[:2])) in touching_by_hand(book) and is_paper_by_hand(
            book, {"claim": "may", "pair": value[:2]}, value[2:])
    ahead = ahead_by_hand(book)
    if kind == "price":
        pairs = open_by_hand(book, ahead)
        if value[1] is None:
            return not has_loads_by_hand(book, pairs, told["least"])
        back, loads = value
        used = {name: sum(loads[pair] for pair in pairs if name in pair) for name in book.names()}
        is_cheap = list(loads) == pairs and all(used[name] <= book[name].price for name in used)
        is_one = all(one in back or other in back for one, other in pairs)
        return is_cheap and is_one and sum(loads.values()) == told["least"] == price(book, back)
    names = book.at(told["cell"])
    if kind == "crowd":
        crowd, dates, day, roster = value
        if not names:
            return value == ([], None, None, [])
        return crowd in crowds_by_hand(names, ahead) and len(crowd) == len(roster) == told["most"] and is_paper_by_hand(
            book, {"claim": "may", "pair": crowd}, (dates, day)) and sorted(sum(roster, [])) == names and all(
            chain in chains_by_hand(names, ahead) for chain in roster)
    if not names:
        return value == ([], [])
    chain, rows = value
    return chain in chains_by_hand(names, ahead) and price(book, chain) == told["price"] == sum(
        number for _, number in rows) and all(crowd in crowds_by_hand(names, ahead) for crowd, _ in rows) and all(
        sum(number for crowd, number in rows if name in crowd) >= book[name].price for name in names)


class AgainstAllDates(Case):
    def check(self, book, every, most, told):
        for value in every_claim(book, most):
            expected = is_true_by_hand(book, every, value)
            told.setdefault(value["claim"], [0, 0])[expected] += 1
            self.assertIs(is_claim(value), True)
            self.assertIs(is_true(value), expected)
            if not expected:
                self.raised(NotTrue, lambda: paper_for(value))
                continue
            paper = paper_for(value)
            self.assertIs(type(paper), dict if value["claim"] == "safe" else tuple)
            self.assertTrue(is_paper_by_hand(book, value, paper), (value, paper))
            self.assertIs(is_paper(value, paper), True)

    def test_small_books(self):
        told = {}
        for book, every in small_books(391, 20, names="abc") + safe_books(392, 12) + small_books(393, 6, names="a"):
            self.check(book, every, 9, told)
        self.assertGreater(min(min(counts) for counts in told.values()), 10)
        self.same(len(told), 8)

    def test_books_without_deals(self):
        for book in (Book(Calendar([], []), []), Book(Calendar(["m"], [("m", "day", 3)]), [])):
            for value, paper in ((claim("safe", book), {}), (claim("crowd", book, cell=CELL, most=0),
                                                             ([], None, None, [])),
                                 (claim("price", book, least=0), ([], {})), (claim("dearest", book, cell=CELL, price=0),
                                                                            ([], []))):
                self.same([is_true(value), paper_for(value), is_paper(value, paper)], [True, paper, True])
            for value in (claim("unsafe", book), claim("crowd", book, cell=CELL, most=1), claim("price", book, least=1),
                          claim("dearest", book, cell=CELL, price=1)):
                self.same([is_claim(value), is_true(value)], [True, False])
                self.raised(NotTrue, lambda: paper_for(value))
            self.assertIs(is_claim(claim("never", book, pair=["a", "b"])), False)

    def test_papers_of_other_claims(self):
        told = [0, 0]
        for book in (plain(), plain().without("b"), plain().without("b", "d")):
            claims = [value for value in every_claim(book, 9) if is_true(value)]
            papers = [(value, paper_for(value)) for value in claims]
            for value in claims:
                for other, paper in papers:
                    if value["claim"] == other["claim"]:
                        expected = is_paper_by_hand(book, value, paper)
                        told[expected] += 1
                        self.assertIs(is_paper(value, paper), expected)
                    elif not (value["claim"] in ("never", "safe") and other["claim"] in ("never", "safe")):
                        self.assertIs(is_paper(value, paper), False)
        self.assertGreater(min(told), 5)

    def test_false_claims_have_no_paper(self):
        book = plain()
        papers = [paper_for(value) for value in every_claim(book, 12) if is_true(value)]
        papers += [([], {}), ([], []), {}, (["c"], None)]
        for value in [value for value in every_claim(book, 12) if not is_true(value)]:
            for paper in papers + ODD_VALUES:
                self.assertIs(is_paper(value, paper), False)


class Prices(Case):
    def test_loads_or_none(self):
        """A price has loads of its total, or none, with sides or without."""
        told = {}
        source = numbers(394)
        names = "abcde"
        pairs = list(itertools.combinations(names, 2))
        for _ in range(300):
            some = sorted(source.sample(pairs, source.randint(3, 8)))
            book = meeting_book(some, {name: source.randint(0, 3) for name in names})
            least = back_price(book, some)
            value = claim("price", book, least=least)
            back, found = paper_for(value)
            self.same([price(book, back), is_true(value)], [least, True])
            expected = has_loads_by_hand(book, some, least)
            told[expected] = told.get(expected, 0) + 1
            self.same(found is not None, expected)
            self.assertTrue(is_paper_by_hand(book, value, (back, found)))
            self.same([is_paper(value, (back, found)), is_paper(value, (tuple(back), found))], [True, True])
            self.assertIs(is_paper(value, (back, None)), not expected)
            for number in (least - 1, least + 1):
                if number >= 0:
                    self.same(is_true(claim("price", book, least=number)), False)
        self.assertGreater(min(told[True], told[False]), 20)

    def test_an_odd_ring(self):
        ring = [("a", "b"), ("a", "c"), ("b", "c")]
        for prices, loads in (({"a": 1, "b": 1, "c": 1}, False), ({"a": 2, "b": 2, "c": 2}, False),
                              ({"a": 0, "b": 1, "c": 1}, True), ({"a": 1, "b": 1, "c": 2}, True),
                              ({"a": 0, "b": 0, "c": 0}, True), ({"a": 1, "b": 2, "c": 4}, True),
                              ({"a": 2, "b": 2, "c": 3}, False)):
            book = meeting_book(ring, prices)
            value = claim("price", book, least=sum(sorted(prices.values())[:2]))
            self.same([is_true(value), paper_for(value)[1] is not None], [True, loads])

    def test_spoilt(self):
        book = meeting_book([("a", "b"), ("b", "c")], {"a": 2, "b": 3, "c": 2})
        value = claim("price", book, least=3)
        ab, bc = ("a", "b"), ("b", "c")
        for paper in ((["b"], {ab: 1, bc: 2}), (("b",), {bc: 1, ab: 2})):
            self.assertIs(is_paper(value, paper), True)
        for paper in ((["b"], {ab: 1, bc: 1}), (["b"], {ab: 0, bc: 3}), (["a", "c"], {ab: 1, bc: 2}), (["b"], None),
                      ([], {ab: 1, bc: 2}), (["b"], {ab: 1, bc: 2, ("a", "c"): 0}), (["b"], {ab: 3}), (["b"], {}),
                      (["b", "b"], {ab: 1, bc: 2}), [["b"], {ab: 1, bc: 2}], (["b"],), (["b"], {ab: 1, bc: 2}, 3),
                      (["b"], {ab: True, bc: 2}), (["b"], {ab: 4, bc: -1}), ("b", {ab: 1, bc: 2}), {"b": 3}):
            self.assertIs(is_paper(value, paper), False, paper)
        equal = meeting_book([("a", "b")], {"a": 2, "b": 2})
        for back in (["a"], ["b"]):
            self.assertIs(is_paper(claim("price", equal, least=2), (back, {ab: 2})), True)
        self.assertIs(is_paper(claim("price", equal, least=2), (["a", "b"], {ab: 2})), False)


class Spoilt(Case):
    def spoil(self, value, right, wrong):
        for paper in right:
            self.assertIs(is_paper(value, paper), True, paper)
        for paper in wrong + ODD_VALUES + [Anything(), value, plain()]:
            self.assertIs(is_paper(value, paper), False, paper)
        for paper in right:
            if isinstance(paper, tuple):
                self.assertIs(is_paper(value, list(paper)), False)
                self.assertIs(is_paper(value, paper + (None,)), False)
                self.assertIs(is_paper(value, paper[:-1]), False)
                for at in range(len(paper)):
                    for part in ODD_VALUES + [Anything()]:
                        changed = paper[:at] + (part,) + paper[at + 1:]
                        same = type(part) is type(paper[at]) and part == paper[at]
                        alike = isinstance(part, (list, tuple)) and isinstance(paper[at], (list, tuple))
                        expected = same or (alike and list(part) == list(paper[at]))
                        self.assertIs(is_paper(value, changed), expected, changed)

    def test_never(self):
        for pair in (["a", "c"], ("c", "a")):
            self.spoil(claim("never", plain(), pair=pair), [("a", "c", []), ("a", "c", ())],
                       [("c", "a", []), ("a", "b", []), ("a", "c", [("day", "m", 0)]), ("a", "a", []), ("a", "z", [])])
        far = plain().with_calendar(Calendar(["m"], [("day", "m", -40), ("day", "m", -50)]))
        self.spoil(claim("never", far, pair=["a", "b"]), [("b", "a", [("day", "m", -40)]),
                                                          ("b", "a", (("day", "m", -50),))],
                   [("b", "a", []), ("b", "a", [("day", "m", 0)]), ("b", "a", [["day", "m", -40]]), ("a", "b", []),
                    ("b", "a", [("day", "m", -40)] * 2), ("b", "a", ("day", "m", -40)),
                    ("a", "b", [("day", "m", -40)])])

    def test_may(self):
        for pair in (["a", "b"], ("b", "a")):
            self.spoil(claim("may", plain(), pair=pair), [({"m": 3}, 12), ({"m": 5}, 12), ({"m": 5}, 14)],
                       [({"m": 2}, 12), ({"m": 3}, 13), ({"m": 6}, 12), ({"m": 3, "n": 0}, 12), ({}, 12),
                        ({"m": True}, 12)])

    def test_surely(self):
        right = ([("m", "day", 5)], [("day", "m", 0)])
        self.spoil(claim("surely", plain(), pair=["a", "d"]), [right, tuple(map(tuple, right))],
                   [right[::-1], ([], []), (right[0], []), ([], right[1]), ([("m", "day", 4)], right[1])])
        self.spoil(claim("surely", plain(), pair=("d", "a")), [right[::-1]], [right])

    def test_safe(self):
        book = plain().without("b", "d").with_deal(deal("e", ("m", 30), ("m", 33), "x"))
        right = {("a", "c"): ("a", "c", []), ("a", "e"): ("a", "e", []), ("c", "e"): ("c", "e", ())}
        value = claim("safe", book)
        self.spoil(value, [right, dict(list(right.items())[::-1])], [list(right.items())])
        for pair in right:
            less = {key: right[key] for key in right if key != pair}
            for wrong in (less, {**less, pair[::-1]: right[pair]}, {**less, pair: right[pair][:2]},
                          {**less, "ac": right[pair]}, {**less, pair: list(right[pair])},
                          {**right, ("a", "z"): ("a", "z", [])}):
                self.assertIs(is_paper(value, wrong), False, wrong)
            for part in ODD_VALUES + [Anything(), ("b", "a", []), ("a", "a", [])]:
                self.assertIs(is_paper(value, {**right, pair: part}), False)
        self.assertIs(is_paper(value, {**right, ("a", "c"): ("a", "e", [])}), False)

    def test_unsafe(self):
        self.spoil(claim("unsafe", plain()), [("a", "b", {"m": 3}, 12), ("b", "a", {"m": 5}, 13),
                                              ("b", "c", {"m": 5}, 15)],
                   [("a", "a", {"m": 3}, 5), ("a", "d", {"m": 3}, 5), ("a", "c", {"m": 3}, 12),
                    ("a", "b", {"m": 6}, 12),
                    ("a", "z", {"m": 3}, 12), ("a", "b", {"m": 3}, 13), ("a", "b", ({"m": 3}, 12))])

    def test_crowd(self):
        value = claim("crowd", plain(), cell=CELL, most=2)
        right = (["a", "b"], {"m": 3}, 12, [["a", "c"], ["b"]])
        self.spoil(value, [right, (("b", "c"), {"m": 3}, 13, (("b",), ("a", "c")))],
                   [(["b", "a"],) + right[1:], (["a", "c"],) + right[1:], right[:3] + ([["a"], ["b"], ["c"]],),
                    right[:3] + ([["c", "a"], ["b"]],), right[:2] + (13, right[3]), (["a"], {"m": 3}, 3, [["a", "c"]]),
                    right[:3] + ([["a", "c"], ["d"]],), (["b", "c"],) + right[1:], ([], None, None, [])])

    def test_dearest(self):
        value = claim("dearest", plain(), cell=CELL, price=8)
        right = (["a", "c"], [(["a", "b"], 3), (["b", "c"], 5)])
        self.spoil(value, [right, (("a", "c"), ((("a", "b"), 3), (("b", "c"), 5))),
                           (["a", "c"], [(["a", "b"], 3), (["c"], 4),
                   (["b", "c"], 1)])],
                   [(["c", "a"], right[1]), (["a"], right[1]), (["b"], right[1]), (["a", "c"], right[1][:1]),
                    (["a", "c"], [(["a", "b"], 4), (["b", "c"], 5)]), (["a", "c"], [(["b", "a"], 3), (["b", "c"], 5)]),
                    (["a", "c"], [(["a", "c"], 8)]), (["a", "c", "c"], right[1]),
                    (["a", "c"], [[["a", "b"], 3], (["b", "c"], 5)]),
                    ([], right[1]), (["a", "c"], [])])
        none = claim("dearest", plain(), cell=("f", "z", "w"), price=0)
        self.spoil(none, [([], []), ((), ())], [(["a"], []), ([], [(["a"], 0)]), ([], [([], 0)]), ([],)])

    def test_dearest_of_no_price(self):
        book = Book(Calendar([], []), [deal("a", ("day", 0), ("day", 1), price=0),
                                       deal("b", ("day", 5), ("day", 6), price=0)])
        value = claim("dearest", book, cell=CELL, price=0)
        for paper in ((["a"], []), (["a", "b"], []), (["b"], [(["a"], 0)])):
            self.assertIs(is_paper(value, paper), True)
        for paper in (([], []), (["b", "a"], []), (["a"], [(["a"], 1)])):
            self.assertIs(is_paper(value, paper), False)
        self.assertIs(is_paper(value, paper_for(value)), True)


class Claims(Case):
    right = [claim("never", plain(), pair=["a", "c"]), claim("may", plain(), pair=("c", "b")), claim("safe", plain()),
             claim("surely", plain(), pair=["a", "d"]), claim("unsafe", plain()),
             claim("crowd", plain(), cell=CELL, most=9),
             claim("price", plain(), least=0), claim("dearest", plain(), cell=("z", "z", "z"), price=10 ** 29)]

    def wrong(self, value):
        self.assertIs(is_claim(value), False, value)
        for call in (lambda: is_true(value), lambda: paper_for(value), lambda: is_paper(value, None)):
            try:
                call()
                self.fail(f"{value!r} is none")
            except InvalidClaim as found:
                self.assertIs(found.value, value)

    def test_right_ones(self):
        for value in self.right:
            self.assertIs(is_claim(value), True)
            self.assertIs(is_claim(dict(list(value.items())[::-1])), True)

    def test_values_of_any_kind(self):
        for value in ODD_VALUES + [Anything(), plain(), text_of(plain()), list(self.right[0].items()),
                                   {"claim": "safe"},
                                   {"book": text_of(plain())}, ("safe", text_of(plain()))]:
            self.wrong(value)

    def test_a_key_less_or_more(self):
        for value in self.right:
            for key in value:
                self.wrong({other: value[other] for other in value if other != key})
                self.wrong({(other if other != key else "key"): value[other] for other in value})
                self.wrong({(other if other != key else 1): value[other] for other in value})
            for key in ("pair", "cell", "most", "least", "price", "other", "", 1, None, ("claim",)):
                if key not in value:
                    self.wrong({**value, key: value.get("pair", 1)})

    def test_wrong_kinds(self):
        for value in self.right:
            for kind in ODD_VALUES + ["Safe", "never ", "apart", "perhaps", "safe\n", Anything()]:
                self.wrong({**value, "claim": kind})
        for one, other in itertools.permutations(self.right, 2):
            parts = sorted(set(one) - {"claim", "book"})
            self.same(is_claim({**one, "claim": other["claim"]}), parts == sorted(set(other) - {"claim", "book"}))

    def test_wrong_texts(self):
        text = text_of(plain())
        for value in self.right:
            for wrong in ODD_VALUES + [text[:-1], text + "\n", text.replace("alone", "both"), text[1:], "", "moments",
                                       plain(),
                                       text.encode(), text.split("\n"), text + "clause m day 3\n", Anything()]:
                self.wrong({**value, "book": wrong})

    def test_wrong_pairs(self):
        for value in self.right[:2]:
            for pair in ODD_VALUES + [["a", "a"], ["a"], ["a", "b", "c"], [], "ab", {"a": 1, "b": 2}, {"a", "b"},
                                      ["a", "z"],
                                      ["z", "a"], [["a"], "b"], ["a", None], ["a", True], [("a", "b")], Anything(),
                                      ["a", Anything()], [Anything(), "a"], [Anything(), Anything()]]:
                self.wrong({**value, "pair": pair})
            for pair in (["d", "a"], ("d", "a")):
                self.assertIs(is_claim({**value, "pair": pair}), True)

    def test_wrong_cells_and_counts(self):
        crowd, cheap, dearest = self.right[5], self.right[6], self.right[7]
        for value in ODD_VALUES + [["f", "x", "w"], ("f", "x"), ("f", "x", "w", "w"), ("f", "day", "w"), ("f", "x", 1),
                                   "fxw",
                                   ("F", "x", "w"), (("f",), "x", "w"), Anything(), ("f", "x", Anything())]:
            self.wrong({**crowd, "cell": value})
            self.wrong({**dearest, "cell": value})
        for value in ODD_VALUES + ["1", [1], (1,), -1, -10 ** 29, Anything()]:
            if type(value) is not int or value < 0:
                self.wrong({**crowd, "most": value})
                self.wrong({**cheap, "least": value})
                self.wrong({**dearest, "price": value})

    def test_not_true(self):
        book = plain()
        for value in (claim("never", book, pair=["a", "b"]), claim("may", book, pair=["a", "c"]), claim("safe", book),
                      claim("surely", book, pair=["a", "b"]), claim("unsafe", book.without("b")),
                      claim("crowd", book, cell=CELL, most=1), claim("crowd", book, cell=CELL, most=3),
                      claim("price", book, least=5), claim("dearest", book, cell=CELL, price=9)):
            self.same([is_claim(value), is_true(value), is_paper(value, None)], [True, False, False])
            self.raised(NotTrue, lambda: paper_for(value))

    def test_great_numbers(self):
        big = 10 ** 29
        for book in open_books(395, 6, size=big):
            for one, other in itertools.combinations(book.names(), 2):
                told = {"never": ["never"], "perhaps": ["may"], "surely": ["may", "surely"]}[word(book, one, other)]
                for kind in ("never", "may", "surely"):
                    value = claim(kind, book, pair=[one, other])
                    self.same(is_true(value), kind in told)
                    if kind in told:
                        self.assertIs(is_paper(value, paper_for(value)), True)

    def test_by_name_and_new(self):
        value = claim("safe", plain().without("b"))
        self.same([is_claim(value=value), is_true(claim=value)], [True, True])
        paper = paper_for(claim=value)
        self.same([is_paper(value=paper, claim=value), list(paper)], [True, [("a", "c"), ("c", "d")]])
        self.assertTrue(is_apart_paper(plain(), "a", "c", paper[("a", "c")]))
        told = repr(paper)
        paper.clear()
        self.same(repr(paper_for(value)), told)
        self.same(value, claim("safe", plain().without("b")))
