"""The text of a book, line by line, there and back."""

from letdays.books import Book
from letdays.calendars import Calendar
from letdays.deals import Deal
from letdays.errors import DaysError, InvalidText, LimitError, StateError

DEAL_WORDS = 12
HOWS = ("alone", "beside")


def text_of(book):
    """The text of the book."""
    lines = [" ".join(["moments"] + book.calendar.moments())]
    lines = lines + [line_of_clause(clause) for clause in book.calendar]
    lines = lines + [line_of(deal) for deal in book]
    return "".join([line + "\n" for line in lines])


def line_of_clause(clause):
    """The line of a clause, without a line feed."""
    one, other, number = clause
    return f"clause {one} {other} {number}"


def line_of(deal):
    """The line of the deal, without a line feed."""
    places = [",".join(names) for names in (deal.films, deal.lands, deal.ways)]
    points = [f"{moment} {number}" for moment, number in (deal.begin, deal.end)]
    how = HOWS[0] if deal.alone else HOWS[1]
    return " ".join(["deal", deal.name, deal.house] + places + points + [how, str(deal.price)])


def number_in(word):
    """The INTEGER of a word in decimal; None if it is no such word, also with needless signs or zeros."""
    digits = word[1:] if word.startswith("-") else word
    if digits == "" or not all(["0" <= digit <= "9" for digit in digits]):
        return None
    return int(word) if str(int(word)) == word else None


def deal_in(line):
    """The deal of any line; None for any value that is no line of one."""
    words = line.split(" ") if isinstance(line, str) else []
    if len(words) != DEAL_WORDS:
        return None
    films, lands, ways = [part.split(",") for part in words[3:6]]
    begin, end = (words[6], number_in(words[7])), (words[8], number_in(words[9]))
    alone, price = words[10] == HOWS[0], number_in(words[11])
    try:
        deal = Deal(words[1], words[2], films, lands, ways, begin, end, alone=alone, price=price)
    except (DaysError, LimitError):
        return None
    # Words that cannot stand there, and names that are not sorted, are not in the line of the deal.
    return deal if line_of(deal) == line else None


def read_deal(line):
    """The deal of its line."""
    deal = deal_in(line)
    if deal is None:
        raise InvalidText(1)
    return deal


def read_book(text):
    """The book of its text."""
    if not isinstance(text, str):
        raise InvalidText(1)
    lines = text.split("\n")
    book = None
    for at in range(len(lines) - 1):
        book = book_with_line(book, lines[at])
        if book is None:
            raise InvalidText(at + 1)
    # Behind the last line feed nothing stands.
    if book is None or lines[-1] != "":
        raise InvalidText(len(lines))
    return book


def book_with_line(book, line):
    """The book that the lines so far tell, with one line more; None if it cannot stand there.

    Ahead of the first line there is no book: None.
    """
    words = line.split(" ")
    try:
        if book is None:
            return first_book(words)
        if words[0] == "clause":
            return book_with_clause(book, words)
        return book_with_deal(book, line)
    except (DaysError, StateError, LimitError):
        return None


def first_book(words):
    """The book that the line of the moments tells; None if it is no such line."""
    moments = words[1:]
    if words[0] != "moments" or moments != sorted(moments):
        return None
    return Book(Calendar(moments), [])


def book_with_clause(book, words):
    """The book with a clause more; None if this is no line of one, or deals stand ahead of it."""
    if len(words) != 4 or len(book) > 0:
        return None
    clause = (words[1], words[2], number_in(words[3]))
    return Book(Calendar(book.calendar.moments(), book.calendar.clauses() + [clause]), [])


def book_with_deal(book, line):
    """The book with a deal more; None if this is no line of one, or a greater name stands ahead of it."""
    deal = deal_in(line)
    if deal is None or any([name > deal.name for name in book.names()]):
        return None
    return book.with_deal(deal)
