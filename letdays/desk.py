"""A desk: commands that change a book or ask about it, and that can be taken back."""

from letdays.buying import least_back, least_price, to_buy
from letdays.calendars import Calendar
from letdays.changes import learnt
from letdays.checks import check_dates_with
from letdays.closing import bound
from letdays.crowds import most_at_once
from letdays.errors import CommandFailed, DaysError, InvalidClauses, InvalidCommand, LimitError, MissingError
from letdays.errors import NameTaken, NothingToUndo, StateError, UnknownMoment
from letdays.keeping import chain_price
from letdays.pairs import word
from letdays.texts import deal_in, line_of, number_in
from letdays.values import is_list, is_moment, is_moment_of, is_name

# The words behind the first one; the line of a deal has a form of its own.
FORMS = {"moment": ("name",), "clause": ("moment", "moment", "number"), "drop": ("name",),
         "know": ("moment", "number"), "undo": (), "word": ("name", "name"), "bound": ("moment", "moment"),
         "crowd": ("name", "name", "name"), "chain": ("name", "name", "name"), "price": (), "back": ()}

DONE = "done"
SAFE = "safe"
NO_BOUND = "no"


def words_of(command):
    """The words of a command; InvalidCommand for any value that is none of a form that is known."""
    words = command.split(" ") if isinstance(command, str) else [""]
    if words[0] == "deal":
        fits = deal_in(command) is not None
    else:
        fits = words[0] in FORMS and do_fit(FORMS[words[0]], words[1:])
    if not fits:
        raise InvalidCommand(command)
    return words


def do_fit(form, words):
    """Whether the words are as many as the form tells, each of its kind."""
    return len(words) == len(form) and all([does_fit(kind, part) for kind, part in zip(form, words)])


def does_fit(kind, part):
    """Whether one word is of a kind."""
    if kind == "number":
        return number_in(part) is not None
    return is_moment(part) if kind == "moment" else is_name(part)


def check_moments_in(book, moments):
    """Raise UnknownMoment for the first one that is neither `day` nor a moment of the book's calendar."""
    known = book.calendar.moments()
    for moment in moments:
        if not is_moment_of(moment, known):
            raise UnknownMoment(moment)


def names_or_safe(names):
    """The answer that tells these names."""
    return " ".join(names) if len(names) > 0 else SAFE


def add_moment(book, words):
    """The book with a moment more, and the answer, as each function for a change."""
    moments = book.calendar.moments()
    if words[1] in moments:
        raise NameTaken(words[1])
    return (book.with_calendar(Calendar(moments + [words[1]], book.calendar.clauses())), DONE)


def add_clause(book, words):
    """The book with a clause more."""
    check_moments_in(book, words[1:3])
    if words[1] == words[2]:
        raise InvalidClauses(0)
    clause = (words[1], words[2], number_in(words[3]))
    check_dates_with(book, [clause])
    return (book.with_calendar(book.calendar.with_clause(clause)), DONE)


def add_deal(book, words):
    """The book with a deal more; the answer is what is to buy for it."""
    deal = deal_in(" ".join(words))
    check_moments_in(book, [deal.begin[0], deal.end[0]])
    return (book.with_deal(deal), names_or_safe(to_buy(book, deal)))


def drop_deal(book, words):
    """The book without a deal; the answer is its line."""
    line = line_of(book[words[1]])
    return (book.without(words[1]), line)


def know_day(book, words):
    """The book in which the day of a moment is known."""
    return (learnt(book, words[1], number_in(words[2])), DONE)


def tell_word(book, words):
    """The word of two deals, as a string, as each function for an answer."""
    return word(book, words[1], words[2])


def tell_bound(book, words):
    """The bound of two moments in the full calendar."""
    check_moments_in(book, words[1:])
    found = bound(book.full(), words[1], words[2])
    return NO_BOUND if found is None else str(found)


def tell_crowd(book, words):
    """How many deals of the cell can be on at once."""
    return str(most_at_once(book, book.at(tuple(words[1:]))))


def tell_chain(book, words):
    """The price of the dearest chain of the cell."""
    return str(chain_price(book, tuple(words[1:])))


def tell_price(book, _):
    """The least price of a back."""
    return str(least_price(book))


def tell_back(book, _):
    """The names of the least back."""
    return names_or_safe(least_back(book))


CHANGES = {"moment": add_moment, "clause": add_clause, "deal": add_deal, "drop": drop_deal, "know": know_day}

ANSWERS = {"word": tell_word, "bound": tell_bound, "crowd": tell_crowd, "chain": tell_chain,
           "price": tell_price, "back": tell_back}


class Held:
    """What a desk was ahead of a block, and what it held ahead of it."""

    def __init__(self, steps, outer):
        self.steps = steps
        self.outer = outer


class Desk:
    """A book, and what it was: its steps are tuples of a command, None for the first one, and the book behind it."""

    def __init__(self, book):
        self._steps = ((None, book),)
        self._held = None

    @property
    def book(self):
        """The book as it is now."""
        return self._steps[-1][1]

    @property
    def many(self):
        """How many commands have changed the book and are not taken back."""
        return len(self._steps) - 1

    def do(self, command):
        """The answer to a command."""
        words = words_of(command)
        if words[0] == "undo":
            return self._undone()
        if words[0] in ANSWERS:
            tell = ANSWERS[words[0]]
            return tell(self.book, words)
        change = CHANGES[words[0]]
        book, answer = change(self.book, words)
        self._steps = self._steps + ((command, book),)
        return answer

    def _undone(self):
        """Take the last command back; the answer is how many are left."""
        if self.many == 0:
            raise NothingToUndo()
        self._steps = self._steps[:-1]
        return str(self.many)

    def do_all(self, *commands):
        """The list of the answers to the commands; if one of them raises an error, none has an effect."""
        steps = self._steps
        answers = []
        for at, command in enumerate(commands):
            try:
                answer = self.do(command)
            except (DaysError, MissingError, StateError, LimitError) as why:
                self._steps = steps
                raise CommandFailed(at) from why
            answers.append(answer)
        return answers

    def __call__(self, commands):
        if not is_list(commands):
            raise InvalidCommand(commands)
        return self.do_all(*commands)

    def log(self):
        """The list of the commands that have changed the book and are not taken back."""
        return [command for command, _ in self._steps[1:]]

    def __enter__(self):
        self._held = Held(self._steps, self._held)
        return self

    def __exit__(self, kind, value, trace):
        if kind is not None:
            self._steps = self._held.steps
        self._held = self._held.outer

    def copy(self):
        """A desk with the same book and log; what is done to one has no effect on the other."""
        twin = Desk(self.book)
        twin._steps = self._steps
        return twin

    def __eq__(self, other):
        if not isinstance(other, Desk):
            return False
        return self.book == other.book and self.log() == other.log()
