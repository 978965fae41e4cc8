"""[93]: `Desk`: its commands, their forms and errors, several at once, blocks and copies."""

from letdays.books import Book
from letdays.calendars import Calendar
from letdays.deals import Deal
from letdays.desk import Desk
from letdays.errors import (CommandFailed, InvalidClauses, InvalidCommand, NameTaken, NoDates, NothingToUndo, TooMany,
                            UnknownDeal, UnknownMoment)
from letdays.texts import line_of
from tests.support import Anything, Case, ODD_VALUES, deal

BIG = 10 ** 29


def plain():
    """The book of the document's example: a and b one behind the other, c about the day 12."""
    calendar = Calendar(["x"], [("day", "x", 0), ("x", "day", 30)])
    return Book(calendar, [Deal("a", "hale", ["f"], ["l"], ["hall"], ("x", 0), ("x", 9), price=3),
                           Deal("b", "iver", ["f"], ["l"], ["hall"], ("x", 10), ("x", 19), price=4),
                           Deal("c", "hale", ["f"], ["l"], ["hall"], ("day", 12), ("day", 20), price=5)])


LINE = "deal d hale f,g l hall x 25 day 60 alone 7"
CHANGES = ["moment y", "clause y x 3", "deal d hale g l hall y 0 x 9 beside 0", "drop c", "know x 12"]


def full_book(many, *deals):
    """A book with so many clauses about the moment m, which is on the day 0 at most."""
    return Book(Calendar(["m"], [("m", "day", at) for at in range(many)]), list(deals))


class Commands(Case):
    def test_moment(self):
        desk = Desk(plain())
        self.same([desk.do("moment y"), desk.do("moment aa")], ["done", "done"])
        self.same([desk.book.calendar.moments(), desk.many], [["aa", "x", "y"], 2])
        self.same(desk.book.calendar.clauses(), plain().calendar.clauses())
        self.same([one.name for one in desk.book], ["a", "b", "c"])
        # The name of a deal or of a house may be a moment's, too.
        self.same([desk.do("moment a"), desk.do("moment hale")], ["done", "done"])

    def test_clause(self):
        desk = Desk(plain())
        self.same([desk.do("clause x day 20"), desk.do("clause day x -5"), desk.do(f"clause day x {BIG}")],
                  ["done"] * 3)
        self.same(desk.book.calendar.clauses(),
                  [("day", "x", 0), ("x", "day", 30), ("x", "day", 20), ("day", "x", -5), ("day", "x", BIG)])
        self.assertIs(list(desk.book) == list(plain()), True)
        before = desk.book
        self.same([desk.do("clause x day 20"), desk.many, desk.book == before], ["done", 4, True])

    def test_deal(self):
        desk = Desk(plain())
        self.same(desk.do(LINE), "safe")
        self.assertIs(desk.book["d"] == Deal("d", "hale", ["f", "g"], ["l"], ["hall"], ("x", 25), ("day", 60), price=7),
                      True)
        self.same(desk.do("deal e k f l hall x 3 x 12 beside 0"), "a b c")
        self.same(desk.do("deal aa k f l hall x 20 x 24 alone 0"), "c")
        self.same(desk.do("deal bb k f l disc x 3 x 12 alone 0"), "safe")
        self.same([desk.book.names(), desk.many], [["a", "aa", "b", "bb", "c", "d", "e"], 4])
        self.same(line_of(desk.book["d"]), LINE)

    def test_drop(self):
        desk = Desk(plain())
        desk.do(LINE)
        self.same([desk.do("drop d"), desk.do("drop a")], [LINE, "deal a hale f l hall x 0 x 9 alone 3"])
        self.same([desk.book.names(), desk.many, desk.book.clauses()], [["b", "c"], 3, plain().clauses()])

    def test_know(self):
        desk = Desk(plain())
        self.same([desk.do("know x 12"), desk.do("bound x day"), desk.do("bound day x")], ["done", "12", "-12"])
        self.same(desk.book.calendar.clauses()[2:], [("x", "day", 12), ("day", "x", -12)])
        self.same([desk.do("know x 12"), desk.many, len(desk.book.calendar)], ["done", 2, 4])

    def test_undo(self):
        desk, books = Desk(plain()), [plain()]
        for command in CHANGES:
            desk.do(command)
            books.append(desk.book)
        for left in range(len(CHANGES) - 1, -1, -1):
            self.same([desk.do("undo"), desk.many, desk.log()], [str(left), left, CHANGES[:left]])
            self.assertIs(desk.book == books[left], True)
            self.same(repr(desk.book), repr(books[left]))
        self.raised(NothingToUndo, lambda: desk.do("undo"))
        self.raised(NothingToUndo, lambda: Desk(plain()).do("undo"))
        self.same([desk.many, desk.log(), repr(desk.book)], [0, [], repr(plain())])

    def test_words_of_commands_are_names_too(self):
        desk = Desk(plain())
        self.same([desk.do("moment undo"), desk.do("clause undo day 3"), desk.do("bound day undo")],
                  ["done", "done", "no"])
        self.same(desk.do("deal price undo deal moment know undo 0 undo 1 alone 2"), "safe")
        self.same([desk.do("word price a"), desk.do("crowd deal moment know")], ["perhaps", "1"])
        self.same(desk.do("drop price"), "deal price undo deal moment know undo 0 undo 1 alone 2")
        self.same([desk.do("know undo 2"), desk.many, desk.do("undo")], ["done", 5, "4"])

    def test_undo_is_no_change_of_its_own(self):
        desk = Desk(plain())
        desk.do("moment y")
        desk.do("moment z")
        self.same([desk.do("undo"), desk.do("moment w"), desk.do("undo"), desk.do("undo")], ["1", "done", "1", "0"])
        self.same([desk.log(), desk.many], [[], 0])

    def test_word(self):
        desk = Desk(plain())
        self.same([desk.do(f"word {pair}") for pair in ("a b", "b a", "a c", "a a")],
                  ["never", "never", "perhaps", "surely"])
        desk.do("know x 12")
        self.same([desk.do("word a c"), desk.do("word c b")], ["surely", "never"])

    def test_bound(self):
        desk = Desk(plain())
        desk.do("moment y")
        self.same([desk.do(f"bound {pair}") for pair in ("x day", "day x", "y x", "x y", "y y", "day day", "x x")],
                  ["30", "0", "no", "no", "0", "0", "0"])
        desk.do("deal d h g l hall y 0 x 9 alone 1")
        self.same([desk.do("bound y x"), desk.do("bound y day"), desk.do("bound x y")], ["9", "39", "no"])
        desk.do(f"clause y day -{BIG}")
        self.same([desk.do("bound y day"), desk.do("bound y x")], [str(-BIG), str(-BIG)])

    def test_crowd_and_chain(self):
        desk = Desk(plain())
        self.same([desk.do("crowd f l hall"), desk.do("chain f l hall")], ["2", "7"])
        desk.do("drop c")
        self.same([desk.do("crowd f l hall"), desk.do("chain f l hall")], ["1", "7"])
        self.same([desk.do("crowd g l hall"), desk.do("chain f hall l")], ["0", "0"])

    def test_price_and_back(self):
        desk = Desk(plain())
        self.same([desk.do("price"), desk.do("back")], ["5", "c"])
        desk.do("deal d k f l hall x 5 x 12 alone 1")
        self.same([desk.do("price"), desk.do("back")], ["6", "c d"])
        self.same([desk.do("drop c"), desk.do("drop d")], [line_of(plain()["c"]), "deal d k f l hall x 5 x 12 alone 1"])
        self.same([desk.do("price"), desk.do("back")], ["0", "safe"])

    def test_questions_change_nothing(self):
        desk = Desk(plain())
        for command in ("word a b", "bound x day", "crowd f l hall", "chain f l hall", "price", "back"):
            self.same(desk.do(command), desk.do(command))
            self.assertIs(type(desk.do(command)), str)
        self.same([desk.many, desk.log(), repr(desk.book)], [0, [], repr(plain())])

    def test_empty_book(self):
        desk = Desk(book=Book(Calendar([], []), []))
        self.same([desk.do(command=command) for command in ("price", "back", "crowd f l w", "chain f l w",
                                                            "bound day day")],
                  ["0", "safe", "0", "0", "0"])
        self.same([desk.book == Book(Calendar([], []), []), desk.many, desk.log()], [True, 0, []])


class Forms(Case):
    def check(self, value):
        desk = Desk(plain())
        desk.do("moment y")
        try:
            desk.do(value)
            self.fail(f"{value!r} is a command")
        except InvalidCommand as found:
            self.assertIs(found.value, value)
        self.same([desk.many, desk.log()], [1, ["moment y"]])

    def test_values_of_any_kind(self):
        for value in ODD_VALUES + [Anything(), b"price", ["price"], ("undo",), plain(), Desk(plain())]:
            self.check(value)

    def test_other_words(self):
        for value in ("", " ", "prices", "Price", "PRICE", "price ", " price", "price\n", "\nprice", "price price",
                      "undo 1",
                      "undo undo", "back c", "do price", "moments", "moments z", "log", "many", "book", "copy", "text",
                      "day",
                      "name", "number", "price;", "undo,back"):
            self.check(value)

    def test_a_word_less_or_more(self):
        rows = ["moment z", "clause x day 4", LINE, "drop a", "know x 4", "undo", "word a b", "bound x day",
                "crowd f l hall",
                "chain f l hall", "price", "back"]
        for row in rows:
            desk = Desk(plain())
            desk.do("moment w")
            desk.do(row)
            words = row.split(" ")
            for wrong in (words + ["a"], words + [""], [""] + words, words[:-1] or [""], words[:1] + [""] + words[1:],
                          words + ["1"], words + ["day"]):
                if wrong != words:
                    self.check(" ".join(wrong))
            if len(words) > 1:
                self.check(row.replace(" ", "  ", 1))
                self.check(row.replace(" ", "\n", 1))
                self.check(words[0].upper() + row[len(words[0]):])

    def test_names(self):
        for wrong in ("A", "a1", "a-b", "seven" + "ab", "a,b", "1", "-", "a\n", "'a'"):
            for row in ("moment {}", "clause {} day 1", "clause x {} 1", "drop {}", "know {} 1", "word {} b",
                        "word a {}",
                        "bound {} x", "bound x {}", "crowd {} l hall", "crowd f {} hall", "crowd f l {}",
                        "chain {} l hall",
                        "chain f {} hall", "chain f l {}", "deal {} h f l w x 0 x 1 alone 1",
                        "deal d {} f l w x 0 x 1 alone 1",
                        "deal d h f l w {} 0 x 1 alone 1", "deal d h f l w x 0 {} 1 alone 1"):
                self.check(row.format(wrong))

    def test_day(self):
        for row in ("moment day", "drop day", "word day a", "word a day", "crowd day l hall", "crowd f day hall",
                    "crowd f l day", "chain day l hall", "chain f day w", "chain f l day",
                    "deal day h f l w x 0 x 1 alone 1",
                    "deal d day f l w x 0 x 1 alone 1", "deal d h day l w x 0 x 1 alone 1"):
            self.check(row)

    def test_numbers(self):
        for wrong in ("+1", "-0", "01", "-01", "1.0", "1_0", "--1", "-", "x", "day", "1-", "0x1", "one", "1e3", "1,0",
                      ""):
            for row in ("clause x day {}", "know x {}", "deal d h f l w x {} x 99 alone 1",
                        "deal d h f l w x 0 x {} alone 1",
                        "deal d h f l w x 0 x 1 alone {}"):
                self.check(row.format(wrong))

    def test_lines_of_deals(self):
        for line in ("deal", "deal d", LINE.replace("f,g", "g,f"), LINE.replace("f,g", "f,f"),
                     LINE.replace("alone", "Alone"),
                     LINE.replace("x 25", "day 61"), LINE.replace("alone 7", "alone -7"),
                     LINE.replace("l hall", "a,b,c,e,k hall"),
                     LINE + "\n", LINE.replace("f,g", "f, g")):
            self.check(line)

    def test_ahead_of_other_errors(self):
        # Wrong moments, names that stand already: but the line is none.
        self.check("deal a h f l w z 5 z 4 alone 1")
        self.check("deal a h f l w z 5 w 4 both 1")
        self.check("clause z z +1")
        self.check("know z 1.5")
        self.check("word z Z")


class Errors(Case):
    def check(self, book, command, error, **attributes):
        desk = Desk(book)
        told = repr(desk.book)
        self.raised(error, lambda: desk.do(command), **attributes)
        self.same([repr(desk.book), desk.many, desk.log()], [told, 0, []])
        self.assertIs(desk.book == book, True)

    def test_unknown_moments(self):
        for command, value in (("clause y x 1", "y"), ("clause x y 1", "y"), ("clause y z 1", "y"),
                               ("clause z z 1", "z"),
                               ("clause day y 1", "y"), ("know y 1", "y"), ("know day 1", "day"), ("know a 1", "a"),
                               ("bound y x", "y"), ("bound x y", "y"), ("bound z y", "z"), ("bound y y", "y"),
                               ("deal d h f l w y 0 x 9 alone 1", "y"), ("deal d h f l w x 0 y 9 alone 1", "y"),
                               ("deal d h f l w z 0 y 9 alone 1", "z"), ("deal a h f l w day 0 y 9 alone 1", "y")):
            self.check(plain(), command, UnknownMoment, value=value)

    def test_unknown_deals(self):
        for command, value in (("drop d", "d"), ("drop x", "x"), ("word d a", "d"), ("word a d", "d"),
                               ("word z y", "z")):
            self.check(plain(), command, UnknownDeal, value=value)

    def test_names_taken(self):
        self.check(plain(), "moment x", NameTaken, value="x")
        self.check(plain(), "deal a h f l w x 0 x 1 alone 1", NameTaken, value="a")
        self.check(plain(), "deal c h f l w x 50 day 0 alone 1", NameTaken, value="c")

    def test_the_same_moment_twice(self):
        for command in ("clause x x 1", "clause x x 0", "clause day day 0", "clause day day -5"):
            self.check(plain(), command, InvalidClauses, position=0)

    def test_no_dates(self):
        for command in ("clause x day -1", "clause day x -31", "know x 31", "know x -1", f"know x {BIG}",
                        "deal d h f l w x 50 day 40 alone 1", "deal d h f l w day 31 x 0 alone 1"):
            self.check(plain(), command, NoDates)

    def test_too_many_moments(self):
        book = Book(Calendar(list("abcdefgh"), []), [])
        self.check(book, "moment i", TooMany, what="moments", limit=8)
        self.check(book, "moment h", NameTaken, value="h")
        self.same(Desk(Book(Calendar(list("abcdefg"), []), [])).do("moment h"), "done")

    def test_too_many_clauses(self):
        for command in ("clause day m 5", "know m -5", "deal d h f l w m 0 day 99 alone 1"):
            self.check(full_book(40), command, TooMany, what="clauses", limit=40)
            self.assertIn(Desk(full_book(38)).do(command), ("done", "safe"))
        for command in ("clause day m -1", "know m 1", "deal d h f l w day 1 m 0 alone 1"):
            self.check(full_book(40), command, NoDates)
        self.check(full_book(39), "know m -5", TooMany, what="clauses", limit=40)
        self.same([Desk(full_book(39)).do("know m 0"), Desk(full_book(40)).do("clause m day 7")], ["done", "done"])
        owned = full_book(39, deal("a", ("m", 0), ("day", 99)))
        self.check(owned, "clause day m 5", TooMany, what="clauses", limit=40)
        self.same(Desk(owned).do("clause m day 99"), "done")

    def test_too_many_deals(self):
        ten = [deal(name, ("day", 0), ("day", 1)) for name in "abcdefghij"]
        self.check(full_book(3, *ten), "deal k h f l w day 0 day 1 alone 1", TooMany, what="deals", limit=10)
        self.check(full_book(40, *ten), "deal k h f l w m 0 day 99 alone 1", TooMany, what="deals", limit=10)
        self.check(full_book(40, *ten), "deal k h f l w day 1 m 0 alone 1", NoDates)
        self.check(full_book(40, *ten), "deal j h f l w day 1 m 0 alone 1", NameTaken, value="j")
        self.check(full_book(40, *ten), "deal j h f l w day 1 n 0 alone 1", UnknownMoment, value="n")
        self.check(full_book(40, *ten), "deal j h f l w day 1 n 0 both 1", InvalidCommand,
                   value="deal j h f l w day 1 n 0 both 1")

    def test_behind_some_commands(self):
        desk = Desk(plain())
        for command in CHANGES:
            desk.do(command)
        told = repr(desk.book)
        for command, error in (("moment y", NameTaken), ("clause q x 1", UnknownMoment), ("drop c", UnknownDeal),
                               (LINE, NameTaken),
                               ("know x 13", NoDates), ("clause x x 1", InvalidClauses), ("nothing", InvalidCommand)):
            self.raised(error, lambda: desk.do(command))
            self.same([repr(desk.book), desk.many, desk.log()], [told, 5, CHANGES])
        self.same(desk.do("undo"), "4")


class Log(Case):
    def test_just_the_commands_that_have_changed_the_book(self):
        desk = Desk(plain())
        desk.do("price")
        desk.do("clause x day 30")
        desk.do("word a b")
        self.raised(NoDates, lambda: desk.do("know x 77"))
        desk.do("know x 7")
        desk.do("know x 7")
        self.same([desk.log(), desk.many], [["clause x day 30", "know x 7", "know x 7"], 3])
        desk.do("undo")
        desk.do(LINE)
        self.same([desk.log(), desk.many], [["clause x day 30", "know x 7", LINE], 3])

    def test_is_new(self):
        desk = Desk(plain())
        desk.do("moment y")
        desk.log().clear()
        self.same([desk.log(), desk.many], [["moment y"], 1])

    def test_the_log_done_again(self):
        desk, other = Desk(plain()), Desk(plain())
        for command in CHANGES + ["undo", "price", "clause x day 9"]:
            desk.do(command)
        for command in desk.log():
            other.do(command)
        self.assertIs(desk == other, True)
        self.same(repr(desk.book), repr(other.book))

    def test_properties_are_not_set(self):
        for name in ("book", "many"):
            with self.assertRaises(AttributeError):
                setattr(Desk(plain()), name, 1)

    def test_the_book_passed_stays(self):
        book = plain()
        desk = Desk(book)
        held = desk.book
        for command in CHANGES:
            desk.do(command)
        self.same([repr(book), repr(held), len(desk.book)], [repr(plain()), repr(plain()), 3])


class Several(Case):
    def test_answers(self):
        for run in (lambda desk: desk.do_all("price", "moment y", "undo", "know x 3", "back"),
                    lambda desk: desk(["price", "moment y", "undo", "know x 3", "back"]),
                    lambda desk: desk(("price", "moment y", "undo", "know x 3", "back")),
                    lambda desk: desk(commands=["price", "moment y", "undo", "know x 3", "back"])):
            desk = Desk(plain())
            self.same(run(desk), ["5", "done", "0", "done", "c"])
            self.same([desk.log(), desk.many], [["know x 3"], 1])

    def test_none(self):
        desk = Desk(plain())
        self.same([desk.do_all(), desk([]), desk(()), desk.many], [[], [], [], 0])

    def test_an_error_in_the_midst(self):
        for at, wrong, error in ((0, "clause x day -1", NoDates), (2, "drop z", UnknownDeal),
                                 (4, "undo it", InvalidCommand),
                                 (1, None, InvalidCommand), (3, "know z 1", UnknownMoment), (5, "moment x", NameTaken),
                                 (3, ["price"], InvalidCommand), (2, "clause x x 1", InvalidClauses)):
            commands = CHANGES[:at] + [wrong] + CHANGES[at:]
            for run in (lambda desk: desk.do_all(*commands), lambda desk: desk(commands),
                        lambda desk: desk(tuple(commands))):
                desk = Desk(plain())
                desk.do("moment w")
                told = repr(desk.book)
                with self.assertRaises(CommandFailed) as found:
                    run(desk)
                self.same(found.exception.position, at)
                self.assertIs(type(found.exception.__cause__), error)
                self.same([repr(desk.book), desk.many, desk.log()], [told, 1, ["moment w"]])

    def test_undo_below_and_then_an_error(self):
        desk = Desk(plain())
        desk.do_all(*CHANGES)
        told = repr(desk.book)
        with self.assertRaises(CommandFailed) as found:
            desk.do_all("undo", "undo", "know x 5", "undo", "undo", "undo", "undo", "undo", "price")
        self.same(found.exception.position, 7)
        self.assertIs(type(found.exception.__cause__), NothingToUndo)
        self.same([repr(desk.book), desk.log()], [told, CHANGES])

    def test_limits_and_values_of_the_error_behind(self):
        desk = Desk(full_book(40))
        with self.assertRaises(CommandFailed) as found:
            desk.do_all("price", "clause day m 5")
        self.assertIs(type(found.exception.__cause__), TooMany)
        self.same([found.exception.__cause__.what, found.exception.__cause__.limit], ["clauses", 40])
        with self.assertRaises(CommandFailed) as found:
            desk(["price", "drop zz", "drop yy"])
        self.same([found.exception.position, found.exception.__cause__.value], [1, "zz"])

    def test_what_is_no_list(self):
        desk = Desk(plain())
        desk.do("moment y")
        for value in ODD_VALUES + ["price", {"price": 1}, {"price"}, Anything(), desk]:
            if not isinstance(value, (list, tuple)):
                try:
                    desk(value)
                    self.fail(f"{value!r} is a list")
                except InvalidCommand as found:
                    self.assertIs(found.value, value)
        self.same(desk.many, 1)

    def test_lists_stay_as_they_were(self):
        desk, commands = Desk(plain()), ["moment y", "price"]
        answers = desk(commands)
        self.same([commands, answers], [["moment y", "price"], ["done", "5"]])
        commands[0] = "moment z"
        answers.clear()
        self.same(desk.log(), ["moment y"])


class Stop(Exception):
    pass


class Blocks(Case):
    def test_without_an_error(self):
        desk = Desk(plain())
        with desk as one:
            self.assertIs(one, desk)
            one.do("moment y")
        self.same([desk.log(), desk.many], [["moment y"], 1])
        with desk:
            desk.do("undo")
        self.same([desk.log(), desk.many, repr(desk.book)], [[], 0, repr(plain())])

    def test_with_an_error(self):
        desk = Desk(plain())
        desk.do("moment y")
        told, stop = repr(desk.book), Stop()
        try:
            with desk as one:
                one.do("undo")
                one.do("know x 4")
                one.do("drop a")
                raise stop
        except Stop as found:
            self.assertIs(found, stop)
        self.same([repr(desk.book), desk.log(), desk.many], [told, ["moment y"], 1])
        self.same(desk.do("undo"), "0")

    def test_with_an_error_of_a_command(self):
        desk = Desk(plain())
        with self.assertRaises(NoDates):
            with desk:
                desk.do("moment y")
                desk.do("know x 99")
        self.same(desk.log(), [])
        with self.assertRaises(CommandFailed):
            with desk:
                desk.do("moment y")
                desk.do_all("moment z", "moment z")
        self.same(desk.log(), [])
        with desk:
            desk.do("moment y")
            self.raised(CommandFailed, lambda: desk.do_all("moment z", "moment z"), position=1)
        self.same(desk.log(), ["moment y"])

    def test_one_within_another_one(self):
        desk = Desk(plain())
        with desk:
            desk.do("moment y")
            with desk:
                desk.do("moment z")
            with self.assertRaises(Stop):
                with desk:
                    desk.do("moment w")
                    with desk:
                        desk.do("undo")
                        desk.do("undo")
                        desk.do("undo")
                    raise Stop()
            self.same(desk.log(), ["moment y", "moment z"])
        self.same(desk.log(), ["moment y", "moment z"])
        with self.assertRaises(Stop):
            with desk:
                desk.do("undo")
                with self.assertRaises(Stop):
                    with desk:
                        desk.do("undo")
                        raise Stop()
                self.same(desk.log(), ["moment y"])
                with desk:
                    desk.do("moment v")
                raise Stop()
        self.same(desk.log(), ["moment y", "moment z"])

    def test_blocks_of_two_desks(self):
        one, other = Desk(plain()), Desk(plain())
        with self.assertRaises(Stop):
            with one, other:
                one.do("moment y")
                other.do("moment z")
                raise Stop()
        self.same([one.log(), other.log()], [[], []])
        with one:
            with self.assertRaises(Stop):
                with other:
                    one.do("moment y")
                    other.do("moment z")
                    raise Stop()
        self.same([one.log(), other.log()], [["moment y"], []])

    def test_errors_that_are_no_exceptions_of_ours(self):
        for error in (KeyboardInterrupt, ZeroDivisionError, StopIteration):
            desk = Desk(plain())
            with self.assertRaises(error):
                with desk:
                    desk.do("moment y")
                    raise error
            self.same(desk.many, 0)

    def test_a_copy_in_a_block(self):
        desk = Desk(plain())
        with self.assertRaises(Stop):
            with desk:
                desk.do("moment y")
                twin = desk.copy()
                raise Stop()
        self.same([desk.log(), twin.log(), twin.do("undo")], [[], ["moment y"], "0"])


class Copies(Case):
    def test_no_effect_on_the_other(self):
        desk = Desk(plain())
        desk.do("moment y")
        twin = desk.copy()
        self.assertIs(type(twin), Desk)
        self.assertIs(twin == desk, True)
        self.same([twin.log(), twin.many, repr(twin.book)], [["moment y"], 1, repr(desk.book)])
        twin.do("moment z")
        desk.do("undo")
        self.same([desk.log(), twin.log()], [[], ["moment y", "moment z"]])
        self.same([twin.do("undo"), twin.do("undo")], ["1", "0"])
        self.raised(NothingToUndo, lambda: twin.do("undo"))
        self.assertIs(twin == desk, True)
        self.same(repr(twin.book), repr(plain()))

    def test_equal(self):
        one, other = Desk(plain()), Desk(Book(Calendar(["x"], [("x", "day", 30), ("day", "x", 0)]),
                                              list(plain())[::-1]))
        self.assertIs(one == other, True)
        self.assertIs(one != other, False)
        one.do("moment y")
        self.assertIs(one == other, False)
        other.do("moment y")
        self.assertIs(one == other, True)
        one.do("undo")
        other.do("undo")
        one.do("price")
        self.assertIs(one == other, True)

    def test_books_and_logs_both_count(self):
        desk = Desk(plain())
        desk.do("moment y")
        self.assertIs(desk == Desk(desk.book), False)
        self.assertIs(Desk(desk.book) == Desk(desk.book), True)
        one, other = Desk(plain()), Desk(plain())
        one.do_all("moment y", "moment z")
        other.do_all("moment z", "moment y")
        self.assertIs(one.book == other.book, True)
        self.assertIs(one == other, False)
        one, other = Desk(plain()), Desk(plain().without("a"))
        one.do("moment y")
        other.do("moment y")
        self.assertIs(one == other, False)
        one.do("clause y day 4")
        other.do("clause day y 4")
        self.assertIs(one == other, False)

    def test_a_clause_that_stands_already(self):
        one, other = Desk(plain()), Desk(plain())
        one.do("clause x day 30")
        self.assertIs(one.book == other.book, True)
        self.assertIs(one == other, False)

    def test_other_kinds(self):
        for value in ODD_VALUES + [plain(), plain().calendar, ["moment y"]]:
            self.assertIs(Desk(plain()) == value, False)
            self.assertIs(value == Desk(plain()), False)
