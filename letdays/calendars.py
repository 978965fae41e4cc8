"""Calendars: moments, and the clauses that are known of their days."""

from letdays.checks import check_integer, check_position
from letdays.errors import InvalidCalendar, InvalidClauses, InvalidMoment, InvalidMoments, NoDates, TooMany
from letdays.networks import dates_in, ring_in, sum_of
from letdays.values import day_of, first_wrong_name, is_integer, is_list, is_moment, is_moment_of


class Calendar:
    """Up to eight moments, and up to 40 clauses between these and `day`. It never changes."""

    MOST_MOMENTS = 8
    MOST_CLAUSES = 40
    ZERO = "day"

    def __init__(self, moments, clauses=()):
        check_moments(moments)
        check_clauses(moments, clauses)
        if len(moments) > Calendar.MOST_MOMENTS:
            raise TooMany("moments", Calendar.MOST_MOMENTS)
        if len(clauses) > Calendar.MOST_CLAUSES:
            raise TooMany("clauses", Calendar.MOST_CLAUSES)
        self._moments = tuple(sorted(moments))
        self._clauses = tuple(clauses)

    @staticmethod
    def is_clause(value):
        """Whether any value is a clause of any moments."""
        if not isinstance(value, tuple) or len(value) != 3:
            return False
        if not is_moment(value[0]) or not is_moment(value[1]):
            return False
        return value[0] != value[1] and is_integer(value[2])

    def moments(self):
        """The sorted list of the moments."""
        return list(self._moments)

    def clauses(self):
        """The list of the clauses, in the sequence in which they were passed."""
        return list(self._clauses)

    def __len__(self):
        return len(self._clauses)

    def __iter__(self):
        return iter(self._clauses)

    def __contains__(self, x):
        if not isinstance(x, dict) or len(x) != len(self._moments):
            return False
        if not all([moment in x and is_integer(x[moment]) for moment in self._moments]):
            return False
        return all([day_of(x, one) - day_of(x, other) <= number for one, other, number in self._clauses])

    def is_ring(self, value):
        """Whether any value is a ring of the calendar."""
        if not self._is_walk(value) or len(value) < 2 or value[-1][1] != value[0][0]:
            return False
        return len(set([clause[0] for clause in value])) == len(value) and sum_of(value) < 0

    def is_row(self, one, other, value):
        """Whether any value is a row of the calendar from one to other."""
        for moment in (one, other):
            if not is_moment_of(moment, self._moments):
                raise InvalidMoment(moment)
        if not self._is_walk(value):
            return False
        if len(value) > 0 and value[0][0] != one:
            return False
        stops = [one] + [clause[1] for clause in value]
        return stops[-1] == other and len(set(stops)) == len(stops)

    def _is_walk(self, value):
        """Whether any value is a list of clauses of the calendar, each beginning where the last one ended."""
        if not is_list(value):
            return False
        if not all([Calendar.is_clause(clause) and clause in self._clauses for clause in value]):
            return False
        return all([value[at - 1][1] == value[at][0] for at in range(1, len(value))])

    def has_dates(self):
        """Whether there are dates that keep all clauses."""
        return dates_in(self._moments, self._clauses) is not None

    def ring(self):
        """A ring; None if there are dates."""
        return ring_in(self._moments, self._clauses)

    def dates(self):
        """Dates that keep all clauses."""
        found = dates_in(self._moments, self._clauses)
        if found is None:
            raise NoDates()
        return found

    def with_clause(self, clause):
        """The calendar with one clause more, the last one; the same one if it has it."""
        if not is_clause_of(clause, self._moments):
            raise InvalidClauses(None)
        if clause in self._clauses:
            return self
        return Calendar(self._moments, self._clauses + (clause,))

    def without(self, position):
        """The calendar without the clause at a position."""
        check_position(position, len(self._clauses))
        return Calendar(self._moments, self._clauses[:position] + self._clauses[position + 1:])

    def known(self, moment, day):
        """The calendar with the two clauses that say that the moment is on the day."""
        if not is_moment_of(moment, self._moments) or moment == Calendar.ZERO:
            raise InvalidMoment(moment)
        check_integer(day)
        return self.with_clause((moment, Calendar.ZERO, day)).with_clause((Calendar.ZERO, moment, -day))

    def __or__(self, other):
        if not isinstance(other, Calendar):
            raise InvalidCalendar(other)
        moments = sorted(set(self._moments + other._moments))
        further = [clause for clause in other._clauses if clause not in self._clauses]
        return Calendar(moments, list(self._clauses) + further)

    def __eq__(self, other):
        if not isinstance(other, Calendar):
            return False
        return self._moments == other._moments and sorted(self._clauses) == sorted(other._clauses)

    def __repr__(self):
        return f"Calendar({list(self._moments)!r}, {list(self._clauses)!r})"


def is_clause_of(value, moments):
    """Whether any value is a clause of these moments and `day`."""
    return Calendar.is_clause(value) and is_moment_of(value[0], moments) and is_moment_of(value[1], moments)


def check_moments(moments):
    """Raise InvalidMoments unless these are different NAMES in a list."""
    if not is_list(moments):
        raise InvalidMoments(None)
    wrong = first_wrong_name(moments)
    if wrong is not None:
        raise InvalidMoments(wrong)


def check_clauses(moments, clauses):
    """Raise InvalidClauses unless these are different clauses of the moments and `day` in a list."""
    if not is_list(clauses):
        raise InvalidClauses(None)
    for at in range(len(clauses)):
        if not is_clause_of(clauses[at], moments) or clauses[at] in clauses[:at]:
            raise InvalidClauses(at)
