"""Turns: in which sequence houses can choose such that each one is sure of what it wants."""

from letdays.errors import TooMany
from letdays.lots import are_houses, is_sure
from letdays.values import is_list, lots_of

MOST_IN_TURN = 6


def is_safe_turn(lots, value):
    """Whether any value is a list of all houses, each once, each sure beside those ahead of it."""
    if not is_list(value) or not all([house in lots for house in value]) or sorted(value) != lots.all_houses():
        return False
    return all([is_sure(lots, value[at], value[:at]) for at in range(len(value))])


def is_stuck(lots, value):
    """Whether any value is a sorted list of one or more houses, none of them sure beside the others of the list."""
    return are_houses(lots, value) and len(sure_ones(lots, value)) == 0


def sure_ones(lots, houses):
    """Those of the houses that are sure beside the other ones of them."""
    return [house for house in houses if is_sure(lots, house, without_one(houses, house))]


def without_one(houses, house):
    """The list of the houses without this one."""
    return [other for other in houses if other != house]


def lined_up_last(lots):
    """The houses of which none is sure beside the other ones of them, and a safe sequence of the rest behind them."""
    front = lots.all_houses()
    behind = []
    sure = sure_ones(lots, front)
    # A house that is sure beside some others is sure beside fewer of them, so any sure one may be the last.
    while len(sure) > 0:
        behind = sure[:1] + behind
        front = without_one(front, sure[0])
        sure = sure_ones(lots, front)
    return (front, behind)


def safe_turn(lots):
    """A safe turn; None if there is none."""
    front, behind = lined_up_last(lots)
    return behind if len(front) == 0 else None


def stuck(lots):
    """A stuck list; None if there is none."""
    front, _ = lined_up_last(lots)
    return front if len(front) > 0 else None


def turns(lots):
    """Yield all safe turns, in ascending order."""
    if len(lots) > MOST_IN_TURN:
        raise TooMany("houses", MOST_IN_TURN)
    found = all_safe_turns(lots)
    for turn in found:
        yield turn


def all_safe_turns(lots):
    """The list of all safe turns, in ascending order."""
    houses = lots.all_houses()
    sure = {(house, some): is_sure(lots, house, some)
            for house in houses for some in lots_of(without_one(houses, house))}
    found = [[]]
    for _ in houses:
        found = [turn + [house] for turn in found for house in houses
                 if house not in turn and sure[(house, tuple(sorted(turn)))]]
    return found
