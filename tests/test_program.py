"""Over the whole program: a desk by turns with the functions of the other files, and what [4] promises of all books."""

import itertools

from letdays.books import Book
from letdays.buying import least_back, least_price, to_buy
from letdays.calendars import Calendar
from letdays.changes import can_be_ahead, days_of, learnt, put_ahead
from letdays.claims import is_paper, is_true, paper_for
from letdays.closing import bound, reaching
from letdays.crowds import greatest_crowd, least_roster, most_at_once
from letdays.desk import Desk
from letdays.errors import DaysError, LimitError, MissingError, NoDates, NotSafe, StateError
from letdays.keeping import chain_price, charge, cover, crowd_price
from letdays.pairs import apart_paper, is_apart_paper, together_paper, word, words
from letdays.rights import is_safe_with, rooms, slacks, with_rights
from letdays.showings import covering, surely_covering
from letdays.texts import line_of, read_book, read_deal, text_of
from letdays.together import all_on, is_safe, is_together_paper, open_pairs, quiet_dates, tree
from letdays.windows import held
from tests.support import Case, dates_by_hand, day, deal, numbers, open_books, open_by_hand, ahead_by_hand, small_books

ERRORS = (DaysError, MissingError, StateError, LimitError)


def some_command(source, book):
    """A command that may be done or not."""
    names = book.names() + ["zz"]
    stops = book.calendar.moments() + ["day", "q"]
    one, other, number = source.choice(stops), source.choice(stops), source.randint(-9, 12)
    begin, long = source.randint(-5, 5), source.randint(-1, 6)
    name, second = source.choice(names), source.choice(names)
    lands, how = source.choice(["x", "y", "x,y"]), source.choice(["alone", "beside"])
    fresh = source.choice("abcdefgh")
    kinds = [f"moment {source.choice('mnpr')}", f"clause {one} {other} {number}", f"drop {name}",
             f"know {one} {number}",
             f"deal {fresh} h f {lands} w {one} {begin} {other} {begin + long} {how} {source.randint(0, 5)}",
             f"deal {fresh} h f {lands} w {one} {begin} {one} {begin + long} {how} {source.randint(0, 5)}",
             f"word {name} {second}", f"bound {one} {other}", "crowd f x w", "chain f y w", "price", "back", "undo"]
    return source.choice(kinds)


def by_functions(books, command):
    """The books behind a command, from the first one on, and its answer, by the functions of the other files."""
    book, words = books[-1], command.split(" ")
    cell = tuple(words[1:])
    if words[0] == "undo":
        return books[:-1], str(len(books) - 2)
    if words[0] == "moment":
        return books + [book.with_calendar(book.calendar | Calendar([words[1]], []))], "done"
    if words[0] == "clause":
        clause = (words[1], words[2], int(words[3]))
        return books + [book.with_calendar(book.calendar.with_clause(clause))], "done"
    if words[0] == "drop":
        return books + [book.without(words[1])], line_of(book[words[1]])
    if words[0] == "know":
        return books + [learnt(book, words[1], int(words[2]))], "done"
    if words[0] == "deal":
        told = read_deal(command)
        return books + [book.with_deal(told)], " ".join(to_buy(book, told)) or "safe"
    if words[0] == "bound":
        found = bound(book.full(), words[1], words[2])
        return books, "no" if found is None else str(found)
    answers = {"word": lambda: word(book, words[1], words[2]), "crowd": lambda: str(most_at_once(book, book.at(cell))),
               "chain": lambda: str(chain_price(book, cell)), "price": lambda: str(least_price(book)),
               "back": lambda: " ".join(least_back(book)) or "safe"}
    return books, answers[words[0]]()


class ByTurns(Case):
    def test_a_desk_and_the_functions(self):
        source, told = numbers(401), {}
        for _ in range(12):
            first = Book(Calendar(["m"], [("m", "day", 9)]),
                         [deal("a", ("m", 0), ("m", 3)), deal("b", ("day", 4), ("m", 9))])
            desk, books, log = Desk(first), [first], []
            shown = []
            for _ in range(150):
                command = some_command(source, desk.book)
                try:
                    answer = desk.do(command)
                except ERRORS as found:
                    told["error"] = told.get("error", 0) + 1
                    self.check_error(books, command, found)
                else:
                    told[command.split(" ")[0]] = told.get(command.split(" ")[0], 0) + 1
                    many = len(books)
                    books, expected = by_functions(books, command)
                    self.same(answer, expected)
                    log = log[:-1] if len(books) < many else log + [command] if len(books) > many else log
                shown.append((desk.book, repr(desk.book)))
                self.assertIs(desk.book == books[-1], True)
                self.same([desk.many, desk.log()], [len(books) - 1, log])
                self.same(text_of(desk.book), text_of(books[-1]))
            # The elder books are as they were.
            for book, text in shown:
                self.same(repr(book), text)
        self.assertGreater(min(told[key] for key in ("error", "moment", "clause", "drop", "know", "deal", "undo",
                                                     "back")), 20)

    def check_error(self, books, command, found):
        """An error of a desk is one of the functions, too, but where the desk has one of its own."""
        words = command.split(" ")
        taken = words[0] == "moment" and words[1] in books[-1].calendar.moments()
        if not taken and not (words[0] == "undo" and len(books) == 1):
            with self.assertRaises(Exception):
                by_functions(books, command)

    def test_back_to_the_beginning(self):
        source = numbers(402)
        for book in open_books(403, 10):
            desk = Desk(book)
            for _ in range(60):
                try:
                    desk.do(some_command(source, desk.book))
                except ERRORS:
                    pass
            while desk.many > 0:
                desk.do("undo")
            self.same([repr(desk.book), desk.log()], [repr(book), []])


class Guarantees(Case):
    def test_dates_or_a_ring(self):
        for book in open_books(404, 40):
            for one, other in itertools.permutations(book.calendar.moments() + ["day"], 2):
                most = bound(book.full(), one, other)
                if most is not None:
                    found = reaching(book.full(), one, other)
                    self.assertIn(found, book.full())
                    self.same(day(found, one) - day(found, other), most)

    def test_two_by_two(self):
        for book, every in small_books(405, 30):
            table = words(book)
            for (one, other), told in table.items():
                self.same([apart_paper(book, one, other) is None, together_paper(book, one, other) is None],
                          [told != "never", told == "never"])
            for many in range(1, 5):
                for names in itertools.combinations(book.names(), many):
                    expected = all(table[pair] != "never" for pair in itertools.combinations(names, 2))
                    self.same(all_on(book, list(names)) is not None, expected)

    def test_an_order(self):
        for book in open_books(406, 30, names="abcdef"):
            names = book.names()
            self.same(len(greatest_crowd(book, names)), len(least_roster(book, names)))
            for cell in book.cells():
                self.same([sum(number for _, number in charge(book, cell)),
                           sum(number for _, number in cover(book, cell))],
                          [chain_price(book, cell), crowd_price(book, cell)])

    def test_learning_only_sharpens(self):
        source = numbers(407)
        for book, every in small_books(408, 30):
            dates = source.choice(every)
            known = learnt(learnt(book, "m", dates["m"]), "n", dates["n"])
            self.same(dates_by_hand(["m", "n"], known.clauses(), 0, 4), [dates])
            self.same([days_of(known, "m"), days_of(known, "n")], [(dates["m"],) * 2, (dates["n"],) * 2])
            # Of one day each, nothing is perhaps.
            self.assertNotIn("perhaps", words(known).values())
            for number in range(-3, 9):
                showing = ("f", "x", "w", ("day", number))
                self.same(surely_covering(known, showing), covering(book, dates, showing))
                self.assertTrue(set(surely_covering(book, showing)) <= set(surely_covering(known, showing)))

    def test_put_ahead_until_safe(self):
        told = [0, 0]
        for book in open_books(409, 60, names="abc"):
            pairs = open_pairs(book)
            found = self.put_apart(book, pairs)
            told[found is None] += 1
            self.same([quiet_dates(book) is None, tree(book) is None], [found is None, found is not None])
            if found is not None:
                self.assertTrue(is_safe(found))
        self.assertGreater(min(told), 5)

    def put_apart(self, book, pairs):
        """The book with one of each pair put ahead of the other; None if there is none."""
        if not pairs:
            return book
        for one, other in (pairs[0], pairs[0][::-1]):
            if can_be_ahead(book, one, other):
                found = self.put_apart(put_ahead(book, one, other), pairs[1:])
                if found is not None:
                    return found
        return None

    def test_texts_rights_and_claims(self):
        for book in open_books(410, 40):
            again = read_book(text_of(book))
            self.same([words(again), slacks(again), open_pairs(again)], [words(book), slacks(book), open_pairs(book)])
            safe = not open_by_hand(book, ahead_by_hand(book))
            told = {"claim": "safe" if safe else "unsafe", "book": text_of(book)}
            paper = paper_for(told)
            self.same([is_true(told), is_paper(told, paper)], [True, True])
            if safe:
                self.assertTrue(all(is_apart_paper(book, one, other, paper[(one, other)]) for one, other in paper))
                for name, (early, late) in rooms(book).items():
                    for right in ((early or 0, 0), (0, late or 0)):
                        self.assertTrue(is_safe_with(book, {name: right}))
                        self.assertTrue(is_safe(with_rights(book, {name: right})))
            else:
                self.assertTrue(is_together_paper(book, list(paper[:2]), paper[2:]))

    def test_what_is_held_is_surely_covered(self):
        for book, every in small_books(411, 30):
            for name in book.names():
                stretch = held(book, name, "m")
                for number in range(-6, 10):
                    names = surely_covering(book, ("f", book[name].lands[0], "w", ("m", number)))
                    self.same(name in names, stretch is not None and stretch[0] <= number <= stretch[1])

    def test_no_call_changes_a_book(self):
        for book in open_books(412, 10):
            told = repr(book)
            for call in (slacks, quiet_dates, rooms, text_of, lambda book: learnt(book, "m", 3)):
                try:
                    call(book)
                except (NoDates, NotSafe):
                    pass
            self.same([repr(book), repr(read_book(text_of(book)))], [told, told])
