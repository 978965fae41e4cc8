"""`Back`: names that are to be bought back, enough or not."""

from letdays.books import Book
from letdays.buying import Back, least_back, spare_backs
from letdays.calendars import Calendar
from letdays.deals import Deal
from letdays.errors import InvalidNames, InvalidPaper
from letdays.together import is_safe
from letdays.windows import Window
from tests.support import Anything, Case, ODD_VALUES, deal, open_books, wrong_names


def line():
    """The book of the document's example."""
    calendar = Calendar(["x"], [("day", "x", 0), ("x", "day", 30)])
    return Book(calendar, [deal("a", ("x", 0), ("x", 9), price=3), deal("b", ("x", 10), ("x", 19), price=4),
                           deal("c", ("day", 12), ("day", 20), price=5)])


def twin():
    """An equal book, its parts passed in another sequence."""
    return Book(Calendar(("x",), (("x", "day", 30), ("day", "x", 0))), tuple(line())[::-1])


def owning():
    """A book of deals with own clauses: b and d have the same one, that of c is the calendar's."""
    calendar = Calendar(["m", "n"], [("m", "day", 9), ("n", "day", 5)])
    return Book(calendar, [deal("a", ("m", 2), ("n", 6)), deal("b", ("day", 0), ("m", 4)),
                           deal("c", ("n", 0), ("day", 5)),
                           deal("d", ("day", 1), ("m", 5)), deal("e", ("m", 0), ("m", 3))])


class Parts(Case):
    def test_ordinary(self):
        book = line()
        for names in (["b", "a"], ("a", "b")):
            back = Back(book, names)
            self.assertIs(back.book, book)
            self.same([back.bought, back.price, len(back), back.is_enough()], [("a", "b"), 7, 2, True])
            self.same([name in back for name in "abcz"], [True, True, False, False])
            self.same(repr(back), "Back(['a', 'b'])")
        self.same([Back(book, ["a"]).is_enough(), Back(book, ["c"]).is_enough()], [False, True])

    def test_without_names(self):
        for back in (Back(line()), Back(line(), []), Back(line(), ()), Back(names=(), book=line())):
            self.same([back.bought, back.price, len(back), back.is_enough(), repr(back)], [(), 0, 0, False, "Back([])"])
        self.assertIs(Back(line().without("c")).is_enough(), True)

    def test_enough(self):
        for book in open_books(141, 20, names="abcde"):
            for back in spare_backs(book):
                self.assertIs(Back(book, back).is_enough(), True)
                for name in back:
                    self.assertIs((Back(book, back) - Back(book, [name])).is_enough(), False)
                self.assertTrue(is_safe(Back(book, back).left()))
            self.assertIs(Back(book, least_back(book)[:-1]).is_enough(), not least_back(book))

    def test_never_changes(self):
        names = ["b", "a"]
        back = Back(line(), names)
        names.append("c")
        self.same([back.bought, names], [("a", "b"), ["b", "a", "c"]])
        for name in ("book", "bought", "price"):
            with self.assertRaises(AttributeError):
                setattr(back, name, 1)
        with self.assertRaises(TypeError):
            list(back)

    def test_wrong_names(self):
        for value, position in wrong_names(["a", "b"]):
            self.raised(InvalidNames, lambda: Back(line(), value), position=position)
        self.raised(InvalidNames, lambda: Back(line(), ["c", "d", "c"]), position=1)

    def test_in_for_any_value(self):
        back = Back(line(), ["a", "b"])
        for value in ODD_VALUES + ["c", ["a"], ("a", "b"), line()["a"], back]:
            if value != "a":
                self.assertIs(value in back, False)
        self.assertIs(Anything() in back, False)


class Left(Case):
    def test_own_clauses_stay(self):
        book = owning()
        told = [("m", "day", 9), ("n", "day", 5)]
        own = {"a": ("m", "n", 4), "b": ("day", "m", 4), "c": ("n", "day", 5), "d": ("day", "m", 4), "e": None}
        self.same([one.own_clause() for one in book], [own[name] for name in "abcde"])
        for names, further in ((["a"], [own["a"]]), (["b", "a"], [own["a"], own["b"]]), (["d", "b"], [own["b"]]),
                               (["c"], []), (["e"], []), (["d"], [own["d"]]), (list("edcba"), [own["a"], own["b"]])):
            left = Back(book, names).left()
            self.same(left.calendar.clauses(), told + further)
            self.same(left.calendar.moments(), ["m", "n"])
            self.same(left.names(), [name for name in "abcde" if name not in names])
            self.same([left[name] == book[name] for name in left.names()], [True] * len(left))
            self.same(sorted(left.clauses()), sorted(book.clauses()))
        self.assertIs(Back(book).left() == book, True)

    def test_at_the_limit(self):
        calendar = Calendar(["m"], [("m", "day", at) for at in range(38)])
        book = Book(calendar, [deal("a", ("m", 0), ("day", 50)), deal("b", ("m", 0), ("day", 60))])
        left = Back(book, ["a", "b"]).left()
        self.same([len(left.calendar), left.calendar.clauses()[38:]], [40, [("m", "day", 50), ("m", "day", 60)]])


class Operators(Case):
    def test_of_the_names_of_both(self):
        book = line()
        ab, bc, none = Back(book, ["a", "b"]), Back(twin(), ["c", "b"]), Back(book)
        self.same([(ab | bc).bought, (ab & bc).bought, (ab - bc).bought, (bc - ab).bought],
                  [("a", "b", "c"), ("b",), ("a",), ("c",)])
        self.same([(ab | none).bought, (ab & none).bought, (ab - none).bought, (none - ab).bought],
                  [("a", "b"), (), ("a", "b"), ()])
        self.same([(ab | ab).bought, (ab & ab).bought, (ab - ab).bought], [("a", "b"), ("a", "b"), ()])
        self.same([ab.bought, bc.bought], [("a", "b"), ("b", "c")])
        self.assertIs(type(ab | bc), Back)
        self.assertIs((ab | bc) == Back(line(), ["a", "b", "c"]), True)
        ab |= bc
        self.same([ab.bought, bc.bought], [("a", "b", "c"), ("b", "c")])

    def test_what_is_no_back_of_an_equal_book(self):
        book = line()
        back = Back(book, ["a"])
        others = [Back(book.without("b"), ["a"]), Back(Book(book.calendar, [one.priced(1) for one in book]), ["a"]),
                  Back(book.with_calendar(Calendar(["x"], [])), ["a"]), book, Window([]), ("a",), ["a"], "a"]
        for value in ODD_VALUES + others:
            for call in (lambda: back | value, lambda: back & value, lambda: back - value):
                self.raised(InvalidPaper, call)
                try:
                    call()
                except InvalidPaper as found:
                    self.assertIs(found.value, value)
            self.same(back.bought, ("a",))

    def test_equal(self):
        back = Back(line(), ["a", "b"])
        self.assertIs(back == Back(twin(), ("b", "a")), True)
        self.assertIs(back != Back(twin(), ("b", "a")), False)
        for value in ODD_VALUES + [Back(line(), ["a"]), Back(line()), Back(line().without("c"), ["a", "b"]), ["a", "b"],
                                   ("a", "b"), line()]:
            self.assertIs(back == value, False)
            self.assertIs(value == back, False)

    def test_repr(self):
        self.same([repr(Back(line(), ["c", "a", "b"])), str(Back(line(), ["c"]))],
                  ["Back(['a', 'b', 'c'])", "Back(['c'])"])
        long = Deal("zz", "h", ["f"], ["x"], ["w"], ("x", 50), ("x", 51))
        self.same(repr(Back(line().with_deal(long), ["zz", "c"])), "Back(['c', 'zz'])")
