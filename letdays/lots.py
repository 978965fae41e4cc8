"""Lots: what houses may still choose, and what others leave to a house."""

from letdays.errors import InvalidLots, InvalidNames, TooMany, UnknownHouse
from letdays.flows import greatest_amounts
from letdays.values import are_sorted, first_wrong_name, is_count, is_list, is_name, lots_of

MOST_HOUSES = 8
MOST_FILMS = 8


class Lots:
    """One to eight houses, each with the films of its lot and the number of them that it wants. It never changes."""

    def __init__(self, lots):
        check_lots(lots)
        self._lots = tuple(sorted([(house, tuple(sorted(films)), wanted) for house, films, wanted in lots]))
        self._houses = tuple([lot[0] for lot in self._lots])

    def all_houses(self):
        """The sorted list of the houses."""
        return list(self._houses)

    def all_films(self):
        """The sorted list of the films of all lots, each once."""
        return sorted(set([film for lot in self._lots for film in lot[1]]))

    def __getitem__(self, at):
        for house, films, wanted in self._lots:
            if is_name(at) and house == at:
                return (house, list(films), wanted)
        raise UnknownHouse(at)

    def __len__(self):
        return len(self._houses)

    def __contains__(self, x):
        return is_name(x) and x in self._houses

    def __iter__(self):
        return iter(self._houses)

    def without(self, house):
        """The lots of the other houses."""
        check_house(self, house)
        return Lots([lot for lot in self._lots if lot[0] != house])

    def chosen(self, house, films):
        """The lots behind a choice of one house: without it, and without these films in the other lots."""
        mine = self[house]
        if not are_films_of(mine[1], films) or len(films) != mine[2]:
            raise InvalidNames(None)
        rest = [(other, [film for film in owned if film not in films], wanted)
                for other, owned, wanted in self._lots if other != house]
        if any([len(lot[1]) == 0 for lot in rest]):
            raise InvalidLots(None)
        return Lots(rest)

    def __eq__(self, other):
        if not isinstance(other, Lots):
            return False
        return self._lots == other._lots

    def __repr__(self):
        shown = [(house, list(films), wanted) for house, films, wanted in self._lots]
        return f"Lots({shown!r})"


def check_lots(lots):
    """Raise InvalidLots unless these are lots of different houses in a list, and TooMany for too many of them."""
    if not is_list(lots) or len(lots) == 0:
        raise InvalidLots(None)
    houses = []
    for at in range(len(lots)):
        if not is_house_lot(lots[at]) or lots[at][0] in houses:
            raise InvalidLots(at)
        houses.append(lots[at][0])
    if len(houses) > MOST_HOUSES:
        raise TooMany("houses", MOST_HOUSES)
    if max([len(lot[1]) for lot in lots]) > MOST_FILMS:
        raise TooMany("films", MOST_FILMS)


def is_house_lot(value):
    """Whether any value is a tuple of a NAME, a list of one or more different NAMES, and a COUNT."""
    if not isinstance(value, tuple) or len(value) != 3 or not is_name(value[0]):
        return False
    if not is_list(value[1]) or len(value[1]) == 0:
        return False
    return first_wrong_name(value[1]) is None and is_count(value[2])


def check_house(lots, house):
    """Raise UnknownHouse unless this is one of the houses."""
    if house not in lots:
        raise UnknownHouse(house)


def check_others(lots, house, others):
    """Raise UnknownHouse unless this is one of the houses, and InvalidNames unless these are other ones in a list."""
    check_house(lots, house)
    if not is_list(others):
        raise InvalidNames(None)
    for at in range(len(others)):
        if others[at] not in lots or others[at] == house or others[at] in others[:at]:
            raise InvalidNames(at)


def are_films_of(lot, value):
    """Whether any value is a list of different films of the lot."""
    if not is_list(value) or not all([is_name(film) and film in lot for film in value]):
        return False
    return len(set(list(value))) == len(value)


def are_given(lots, value):
    """Whether any value is a dict from just the houses to sorted lists of films of their lots, each film given once."""
    if not isinstance(value, dict) or len(value) != len(lots) or not all([house in lots for house in value]):
        return False
    if not all([are_films_of(lots[house][1], value[house]) and are_sorted(value[house]) for house in value]):
        return False
    given = [film for house in value for film in value[house]]
    return len(set(given)) == len(given)


def is_choice(lots, value):
    """Whether any value is a choice."""
    return are_given(lots, value) and all([len(value[house]) == lots[house][2] for house in lots])


def is_taking(lots, value):
    """Whether any value is a taking by all houses."""
    return are_given(lots, value) and all([len(value[house]) <= lots[house][2] for house in lots])


def are_houses(lots, value):
    """Whether any value is a sorted list of one or more different houses of these lots."""
    return is_list(value) and len(value) > 0 and all([house in lots for house in value]) and are_sorted(value)


def is_cut(lots, value):
    """Whether any value is a cut."""
    return are_houses(lots, value) and are_too_few(lots, value)


def are_too_few(lots, houses):
    """Whether the lots of these houses have fewer films together than the houses want together."""
    films = [film for house in houses for film in lots[house][1]]
    return len(set(films)) < wanted_by(lots, houses)


def wanted_by(lots, houses):
    """How many films these houses want together."""
    return sum([lots[house][2] for house in houses])


def choice(lots):
    """A choice; None if there is none."""
    found = taking(lots)
    return found if is_choice(lots, found) else None


def cut(lots):
    """A cut; None if there is none."""
    for houses in lots_of(lots.all_houses()):
        if are_too_few(lots, houses):
            return list(houses)
    return None


def most_taken(lots):
    """The greatest number of films that houses have in a taking, together."""
    found = taking(lots)
    return sum([len(found[house]) for house in found])


def taking(lots):
    """A taking with the most films."""
    return taking_of(lots, lots.all_houses(), lots.all_films())


def taking_of(lots, houses, films):
    """A taking by these houses alone, with the most of these films, and no other ones."""
    supply = {house: lots[house][2] for house in sorted(houses)}
    demand = {film: 1 for film in films}
    links = [(house, film) for house in supply for film in lots[house][1] if film in demand]
    amounts = greatest_amounts(supply, demand, links)
    return {house: [link[1] for link in links if link[0] == house and amounts[link] > 0] for house in supply}


def left(lots, house, others):
    """The least number of films of the house's lot that none of the others has, in any taking by them."""
    most = size_of(lots, cover(lots, house, others))
    return len(lots[house][1]) - most


def is_sure(lots, house, others):
    """Whether the house can choose what it wants, whatever the others choose first."""
    return left(lots, house, others) >= lots[house][2]


def worst_taking(lots, house, others):
    """A taking by the others that leaves the house as few films as can be."""
    check_others(lots, house, others)
    return taking_of(lots, others, lots[house][1])


def cover(lots, house, others):
    """A cover by which the others have as few films of the house's lot as can be."""
    check_others(lots, house, others)
    found = covers_of(lots, house, others)
    sizes = [size_of(lots, one) for one in found]
    return found[sizes.index(min(sizes))]


def covers_of(lots, house, others):
    """For each choice of some of the others the cover with just these, and with as few films as can be."""
    owned = {other: lots[other][1] for other in others}
    found = []
    for some in lots_of(others):
        rest = [other for other in owned if other not in some]
        films = [film for film in lots[house][1] if any([film in owned[other] for other in rest])]
        found.append((list(some), films))
    return found


def size_of(lots, covered):
    """How many films of the lot the others have at most, by this cover."""
    return len(covered[1]) + wanted_by(lots, covered[0])


def is_cover(lots, house, others, value):
    """Whether any value is a cover of the house's lot beside the others."""
    check_others(lots, house, others)
    if not isinstance(value, tuple) or len(value) != 2:
        return False
    houses, films = value
    lot = lots[house][1]
    if not are_films_of(others, houses) or not are_films_of(lot, films):
        return False
    if not are_sorted(houses) or not are_sorted(films):
        return False
    rest = [film for other in others if other not in houses for film in lots[other][1]]
    return all([film in films or film not in rest for film in lot])
