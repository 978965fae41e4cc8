"""[91]: the texts of books and the lines of deals, there and back, and each line spoilt in one part."""

import re

from letdays.books import Book
from letdays.calendars import Calendar
from letdays.deals import Deal
from letdays.errors import InvalidText
from letdays.texts import line_of, read_book, read_deal, text_of
from tests.support import Anything, Case, ODD_VALUES, deal, dates_by_hand, numbers, open_books, rings_by_hand
from tests.support import small_books

BIG = 10 ** 29
NAME = "(?!day\\b)[a-z]{1,6}"
STOP = "[a-z]{1,6}"
NUMBER = "(?:0|-?[1-9][0-9]*)"
LIST = f"{NAME}(?:,{NAME})*"
DEAL = re.compile(f"deal ({NAME}) ({NAME}) ({LIST}) ({LIST}) ({LIST}) ({STOP}) ({NUMBER}) ({STOP}) ({NUMBER}) "
                  "(alone|beside) (0|[1-9][0-9]*)")
CLAUSE = re.compile(f"clause ({STOP}) ({STOP}) ({NUMBER})")
MOMENTS = re.compile(f"moments((?: {NAME})*)")


def is_list_by_hand(words, limit):
    return words == sorted(set(words)) and len(words) <= limit


def points_by_hand(match):
    """The begin and the end that a line of a deal tells."""
    return (match[6], int(match[7])), (match[8], int(match[9]))


def is_deal_by_hand(line):
    match = DEAL.fullmatch(line)
    if match is None or not all(is_list_by_hand(match[at].split(","), limit) for at, limit in ((3, 4), (4, 4), (5, 3))):
        return False
    begin, end = points_by_hand(match)
    return begin[0] != end[0] or begin[1] <= end[1]


def wrong_line_by_hand(text):
    """The number of the first line that cannot stand there; None if there is none."""
    lines = text.split("\n")
    moments, clauses, own, names = [], [], [], []
    for at, line in enumerate(lines[:-1]):
        match = MOMENTS.fullmatch(line) if at == 0 else CLAUSE.fullmatch(line) or DEAL.fullmatch(line)
        if match is None:
            return at + 1
        if at == 0:
            moments = match[1].split()
            if not is_list_by_hand(moments, 8):
                return at + 1
        elif line.startswith("clause"):
            clause = (match[1], match[2], int(match[3]))
            if names or clause in clauses or match[1] == match[2] or len(clauses) == 40:
                return at + 1
            if not {match[1], match[2]} <= {*moments, "day"}:
                return at + 1
            clauses.append(clause)
        else:
            begin, end = points_by_hand(match)
            if not is_deal_by_hand(line) or not {begin[0], end[0]} <= {*moments, "day"}:
                return at + 1
            if len(names) == 10 or (names and match[1] <= names[-1]):
                return at + 1
            names.append(match[1])
            if begin[0] != end[0]:
                own.append((begin[0], end[0], end[1] - begin[1]))
        if rings_by_hand(clauses + own) or len(set(clauses + own)) > 40:
            return at + 1
    return None if lines[-1] == "" and len(lines) > 1 else len(lines)


def text_by_hand(book):
    """The text of a book."""
    lines = ["moments" + "".join(" " + moment for moment in sorted(book.calendar.moments()))]
    for one, other, number in book.calendar.clauses():
        lines.append("clause " + one + " " + other + " " + str(number))
    for one in book:
        words = ["deal", one.name, one.house, ",".join(one.films), ",".join(one.lands), ",".join(one.ways),
                 one.begin[0],
                 str(one.begin[1]), one.end[0], str(one.end[1]), "alone" if one.alone else "beside", str(one.price)]
        lines.append(" ".join(words))
    return "".join(line + "\n" for line in lines)


TEXT = """moments m n
clause day m 0
clause m n -3
clause n day 30
deal a hale f,g x w day -4 m 20 alone 5
deal bb iver f x,y v,w n 0 n 9 beside 0
deal c hale g z u,v,w m 1 n 29 alone 12
"""
LINES = TEXT.split("\n")[:-1]


def spoilt(at, line):
    """The text with another line at a number from 1 on."""
    return "".join(one + "\n" for one in LINES[:at - 1] + [line] + LINES[at:])


def right_books():
    """Books of many kinds."""
    wide = Deal("a", "hale", ["g", "f", "k", "e"], ["y", "x", "z", "w"], ["w", "v", "u"], ("day", -BIG), ("m", BIG),
                alone=False, price=BIG)
    ten = [deal(name, ("day", -at), ("m", at), "xy"[:at % 2 + 1], at % 3 == 0, at) for at,
           name in enumerate("abcdefghij")]
    return [Book(Calendar([], []), []), Book(Calendar(["n", "m"], []), []), Book(Calendar(list("hgfedcba"), []), []),
            Book(Calendar(["m"], [("m", "day", -BIG), ("day", "m", BIG + 5)]), []), Book(Calendar(["m"], []), [wide]),
            Book(Calendar([], []), [deal("a", ("day", 0), ("day", 0))]), Book(Calendar(["m"], []), ten[::-1]),
            Book(Calendar(["m"], [("m", "day", at - 20) for at in range(40)]), [deal("a", ("m", -3), ("m", 0))])]


class ThereAndBack(Case):
    def check(self, book):
        text = text_by_hand(book)
        self.same(text_of(book), text)
        found = read_book(text)
        self.assertIs(found == book, True)
        self.same([found.calendar.clauses(), found.calendar.moments()],
                  [book.calendar.clauses(), book.calendar.moments()])
        self.same([repr(found), text_of(found)], [repr(book), text])
        for one in book:
            self.assertIs(read_deal(line_of(one)) == one, True)
            self.same(repr(read_deal(line_of(one))), repr(one))
            self.assertIn(line_of(one) + "\n", text)

    def test_right_books(self):
        for book in right_books():
            self.check(book)

    def test_drawn_books(self):
        for book in open_books(381, 60, names="abcdefghij") + [book for book, _ in small_books(382, 30)]:
            self.check(book)
        for book in open_books(383, 30, size=BIG):
            self.check(book)

    def test_word_for_word(self):
        book = Book(Calendar(["n", "m"], [("day", "m", 0), ("m", "n", -3), ("n", "day", 30)]),
                    [Deal("c", "hale", ["g"], ["z"], ["w", "u", "v"], ("m", 1), ("n", 29), price=12),
                     Deal("a", "hale", ["g", "f"], ["x"], ["w"], ("day", -4), ("m", 20), price=5),
                     Deal("bb", "iver", ["f"], ["y", "x"], ["w", "v"], ("n", 0), ("n", 9), alone=False, price=0)])
        self.same(text_of(book), TEXT)
        self.same([line_of(book[name]) for name in book.names()], LINES[4:])
        self.assertIs(read_book(TEXT) == book, True)
        self.same(text_of(Book(Calendar([], []), [])), "moments\n")

    def test_the_sequence_of_clauses_stays(self):
        clauses = [("m", "day", 9), ("day", "m", 4), ("m", "day", 3)]
        for told in (clauses, clauses[::-1]):
            self.same(read_book(text_of(Book(Calendar(["m"], told), []))).calendar.clauses(), told)

    def test_by_name(self):
        self.same(text_of(book=read_book(text=TEXT)), TEXT)
        self.same(line_of(deal=read_deal(line=LINES[4])), LINES[4])


class Spoilt(Case):
    def check(self, text, line):
        self.same(wrong_line_by_hand(text), line)
        self.raised(InvalidText, lambda: read_book(text), line=line)

    def test_moments(self):
        for line in ("moments  m n", " moments m n", "moments m n ", "moments n m", "moments m m n", "moments m n day",
                     "moment m n", "Moments m n", "moments m,n", "moments m N", "moments m n1", "moments m nnnnnnn", "",
                     "moments m n ", "moments", "moments m n\t", "m n", "moments m o", "clause day m 0"):
            first = 2 if line == "moments" else 3 if line == "moments m o" else 1
            self.check(spoilt(1, line), first)
        self.check("moments \n", 1)
        self.same(len(read_book("moments a b c d e f g h\n").calendar.moments()), 8)
        self.check("moments a b c d e f g h i\n", 1)

    def test_clauses(self):
        for line in ("clause day m", "clause day m 0 0", "clause  day m 0", "clause day m 0 ", " clause day m 0",
                     "clause day m +0", "clause day m -0", "clause day m 00", "clause day m 01", "clause day m 1_0",
                     "clause day m 0.0", "clause day m", "clause day m x", "clause day day 0", "clause m m 0",
                     "clause day o 0", "clause o day 0", "clause Day m 0", "clauses day m 0", "day m 0", "",
                     "clause day m --1", "clause day m 1-", "clause day m -", "clause day, m 0", "clause 0 m day",
                     "moments m n"):
            self.check(spoilt(2, line), 2)
        for at in (3, 4):
            self.check(spoilt(at, LINES[1]), at)
        self.check(spoilt(4, LINES[2]), 4)
        for line in ("clause m n -30", "clause n m 2", "clause n day -5", f"clause day m {BIG}", "clause day m 1"):
            self.same(text_of(read_book(spoilt(3, line))), spoilt(3, line))

    def test_clauses_that_no_days_keep(self):
        self.check(spoilt(4, "clause n m 2"), 4)
        read_book(spoilt(4, "clause n m 3"))
        self.check("moments m\nclause m day -1\nclause day m 0\nclause day m 5\n", 3)
        self.check("moments m\nclause m day -1\nclause day m 0\nnothing\n", 3)

    def test_deals(self):
        right = "deal bb iver f x,y v,w n 0 n 9 beside 0"
        for old, new in (("deal", "deals"), ("deal", "clause"), ("bb", "BB"), ("bb", "day"), ("bb", "bbbbbbb"),
                         ("bb", "b1"),
                         ("iver", "day"), ("iver", "i-r"), (" f ", " f,f "), (" f ", " g,f "), (" f ", " f, "),
                         (" f ", " ,f "), (" f ", " f,,g "), (" f ", " day "), (" f ", " a,b,c,d,e "), (" f ", "  "),
                         ("x,y", "y,x"), ("x,y", "x,x"), ("x,y", "x y"), ("x,y", "x, y"), ("x,y", "x,y,"),
                         ("x,y", "X,y"),
                         ("x,y", "a,b,c,d,e"), ("v,w", "w,v"), ("v,w", "t,u,v,w"), ("v,w", "v;w"), ("n 0", "n -0"),
                         ("n 0", "n +0"), ("n 0", "n 00"), ("n 0", "n"), ("n 0", "o 0"), ("n 0", "n 10"),
                         ("n 0", "0 n"),
                         ("n 9", "n 09"), ("n 9", "n -1"), ("n 9", "o 9"), ("n 9", "n 9 9"), ("n 9", "n nine"),
                         ("n 9", "N 9"), ("beside", "besides"), ("beside", "Beside"), ("beside", ""),
                         ("beside", "True"),
                         ("beside 0", "beside -1"), ("beside 0", "beside 00"), ("beside 0", "beside -0"),
                         ("beside 0", "beside"), ("beside 0", "beside 0 0"), ("beside 0", "beside 0 "),
                         ("beside 0", "beside x"), ("beside 0", "beside 0,"), ("beside 0", "beside 0\t"),
                         ("deal bb", "bb"),
                         ("deal ", "deal  "), ("deal", " deal"), ("n 9", "m -99"), ("n 9", "day 2"), ("iver", ""),
                         ("iver f", "iver"), ("deal bb", "deal a"), ("deal bb", "deal aa,"), (right, "")):
            self.assertEqual(right.count(old), 1, old)
            self.check(spoilt(6, right.replace(old, new)), 6)
        for old, new in (("bb", "aa"), ("bb", "bbbbbb"), ("bb", "ab"), ("iver", "a"), (" f ", " a,b,c,d "),
                         ("n 0", "n 9"),
                         ("x,y", "f"), ("v,w", "f"), ("n 0", "n -90"), ("n 9", "m 10"), ("n 9", "day 30"),
                         ("beside", "alone"),
                         ("beside 0", "beside 10"), ("v,w", "u,v,w"), ("n 0", "day 0")):
            self.same(text_of(read_book(spoilt(6, right.replace(old, new)))), spoilt(6, right.replace(old, new)))

    def test_lines_in_sequence(self):
        self.check(spoilt(6, LINES[4].replace("deal a", "deal bb")).replace("deal a ", "deal bb "), 6)
        self.check(spoilt(6, LINES[6]), 7)
        self.check(spoilt(5, LINES[5]), 6)
        self.check(spoilt(6, LINES[4]), 6)
        self.check(spoilt(6, LINES[1]), 6)
        self.check(spoilt(4, LINES[4]), 5)
        self.check(spoilt(2, LINES[0]), 2)
        self.check("".join(one + "\n" for one in LINES[::-1]), 1)
        for at in range(len(LINES)):
            twice = "".join(one + "\n" for one in LINES[:at + 1] + LINES[at:])
            self.check(twice, at + 2)
            self.check("".join(one + "\n" for one in LINES[:at + 1] + [""] + LINES[at + 1:]), at + 2)

    def test_line_feeds(self):
        for at in range(1, len(LINES) + 1):
            text = "".join(one + "\n" for one in LINES[:at])
            if at != 3:
                self.same(text_of(read_book(text)), text)
            self.check(text[:-1], at)
            self.check(text + "\n", at + 1)
            self.check("\n" + text, 1)
            self.check(text.replace("\n", "", 1), 1)
        self.check("", 1)
        self.check("\n", 1)
        self.check("moments", 1)
        self.check("moments m\nclause", 2)
        self.check(TEXT + "deal d", 8)
        self.check(TEXT + " ", 8)
        self.check(TEXT.replace("bb iver", "BB iver") + "deal d", 6)

    def test_too_many(self):
        forty = "moments m\n" + "".join(f"clause m day {at}\n" for at in range(40))
        self.same(len(read_book(forty).clauses()), 40)
        self.check(forty + "clause m day 40\n", 42)
        self.check(forty + "deal a h f x w m 0 day 50 alone 1\n", 42)
        self.same(len(read_book(forty + "deal a h f x w m 0 day 5 alone 1\n").clauses()), 40)
        ten = "moments\n" + "".join(f"deal {name} h f x w day 0 day 1 alone 1\n" for name in "abcdefghij")
        self.same(len(read_book(ten)), 10)
        self.check(ten + "deal k h f x w day 0 day 1 alone 1\n", 12)

    def test_a_deal_whose_own_clause_none_keep(self):
        self.check("moments m\nclause m day 5\ndeal a h f x w day 6 m 0 alone 1\ndeal b", 3)
        read_book("moments m\nclause m day 5\ndeal a h f x w day 5 m 0 alone 1\n")
        self.check("moments m\ndeal a h f x w day 6 m 0 alone 1\ndeal b h f x w m 0 day 5 alone 1\nx\n", 3)

    def test_values_of_any_kind(self):
        for value in ODD_VALUES + [TEXT.encode(), LINES, [TEXT], read_book(TEXT), Anything()]:
            self.raised(InvalidText, lambda: read_book(value), line=1)
            self.raised(InvalidText, lambda: read_deal(value), line=1)

    def test_drawn(self):
        source, told = numbers(384), {}
        texts = [TEXT] + [text_by_hand(book) for book in open_books(385, 12, names="abc")]
        for _ in range(2500):
            text = spoil(source, source.choice(texts))
            line = wrong_line_by_hand(text)
            told[line] = told.get(line, 0) + 1
            if line is None:
                self.same(text_of(read_book(text)), text)
            else:
                self.raised(InvalidText, lambda: read_book(text), line=line)
        self.assertGreater(min(told[line] for line in (None, 1, 2, 3, 4, 5, 6)), 40)


def spoil(source, text):
    """The text with one part changed at random."""
    lines = text.split("\n")
    at, other = source.randrange(len(lines)), source.randrange(len(lines))
    words = lines[at].split(" ")
    word = source.randrange(len(words))
    place = source.randrange(len(text) + 1)
    way = source.randrange(7)
    if way == 0:
        return text[:place] + source.choice(" ,-019amdxyz\n") + text[place:]
    if way == 1:
        return text[:place] + text[place + 1:]
    if way == 2:
        lines[at], lines[other] = lines[other], lines[at]
    elif way == 3:
        lines.insert(at, lines[other])
    elif way == 4:
        words[word] = source.choice(["0", "-1", "7", "day", "m", "n", "a", "x", "x,y", "beside", "alone", "deal", ""])
        lines[at] = " ".join(words)
    elif way == 5:
        words[word], words[word - 1] = words[word - 1], words[word]
        lines[at] = " ".join(words)
    else:
        del lines[at]
    return "\n".join(lines)


class Lines(Case):
    def test_spoilt_lines(self):
        right = "deal a hale f,g x w day -4 m 20 alone 5"
        self.same(line_of(read_deal(right)), right)
        for line in (right + "\n", " " + right, right + " ", right.replace("-4", "-04"), right.replace("f,g", "g,f"),
                     "",
                     right.replace("day -4", "m 21"), right.replace("alone", "both"), right[:-2], right[5:],
                     right + "\nx",
                     right.replace("f,g", "a,b,c,d,e"), right.replace(" 5", " -5"), TEXT,
                     right.replace("deal a", "deal day"),
                     right.replace("x w", "a,b,c,d,e w"), right.replace("x w", "x a,b,c,d")):
            self.raised(InvalidText, lambda: read_deal(line), line=1)

    def test_any_moments(self):
        found = read_deal("deal a h f x w zz 5 yy -3 beside 0")
        self.same([found.begin, found.end, found.own_clause()], [("zz", 5), ("yy", -3), ("zz", "yy", -8)])

    def test_drawn(self):
        source, told = numbers(386), [0, 0]
        lines = [line_of(one) for book in open_books(387, 10) for one in book] + LINES[4:]
        for _ in range(2000):
            line = spoil(source, source.choice(lines))
            told[is_deal_by_hand(line)] += 1
            if is_deal_by_hand(line):
                self.same(line_of(read_deal(line)), line)
            else:
                self.raised(InvalidText, lambda: read_deal(line), line=1)
        self.assertGreater(min(told), 200)

    def test_what_is_read_keeps_the_dates(self):
        for book, every in small_books(388, 10):
            found = read_book(text_of(book))
            self.same(dates_by_hand(["m", "n"], found.clauses(), 0, 4), every)
