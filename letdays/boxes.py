"""Boxes: by how many days an offer can be moved, and what lands, ways and days are free together."""

from letdays.checks import check_dates_with, check_integer, check_moment, check_name, check_some_names
from letdays.books import is_deal_for
from letdays.deals import check_sizes
from letdays.errors import InvalidDeal
from letdays.networks import nearest
from letdays.stretches import first_room, is_stretch, is_within
from letdays.values import are_names, are_sorted, lots_of
from letdays.windows import Window, barred_by


def barred_delays(book, name, offer):
    """The stretch of the delays of the offer that the deal bars; None if it bars none."""
    deal = book[name]
    check_offer(book, offer)
    check_offer_dates(book, offer)
    return delays_barred(book, deal, offer)


def free_delays(book, offer):
    """The window of the delays of the offer that no deal bars."""
    check_offer(book, offer)
    check_offer_dates(book, offer)
    found = [delays_barred(book, deal, offer) for deal in book]
    return -Window([stretch for stretch in found if stretch is not None])


def least_delay(book, offer, since=0):
    """The least free delay of the offer from since on; None if there is none."""
    check_offer(book, offer)
    check_integer(since)
    return first_room(free_delays(book, offer).stretches, since, 1)


def check_offer(book, offer):
    """Raise InvalidDeal unless this is a Deal whose moments are the calendar's."""
    if not is_deal_for(offer, book.calendar):
        raise InvalidDeal(offer)


def check_offer_dates(book, offer):
    """Raise NoDates unless there are dates of the book that keep the offer's own clause."""
    check_dates_with(book, own_clauses_of(offer))


def own_clauses_of(offer):
    """The list of the own clause of the offer, if it has one."""
    own = offer.own_clause()
    return [] if own is None else [own]


def delays_barred(book, deal, offer):
    """The stretch of the delays of the offer that the deal bars; None if it bars none."""
    if deal.name == offer.name or not deal.touches(offer):
        return None
    # These may be more clauses than a calendar has.
    clauses = book.clauses() + own_clauses_of(offer)
    moments = book.calendar.moments()
    most = most_days(moments, clauses, offer.end, deal.begin)
    return (None if most is None else -most, most_days(moments, clauses, deal.end, offer.begin))


def most_days(moments, clauses, point, other):
    """The greatest number of days by which the point is behind the other one; None if there is none."""
    sums, _ = nearest(moments, clauses, other[0])
    return None if sums[point[0]] is None else sums[point[0]] + point[1] - other[1]


def greatest_boxes(book, film, lands, ways, moment, alone=True):
    """The free boxes of the film that are within no other free box, by lands, ways and stretches."""
    check_name(film)
    check_some_names(lands)
    check_some_names(ways)
    check_moment(book.calendar, moment)
    check_sizes([film], lands, ways)
    places = [(some, by) for some in lots_of(lands)[1:] for by in lots_of(ways)[1:]]
    bars = bars_of(book, moment, alone)
    free = {place: free_in(book, film, place, bars) for place in sorted(places)}
    boxes = [(place, stretch) for place in free for stretch in free[place]]
    return [(place[0], place[1], stretch) for place, stretch in boxes
            if not is_free_in_any(free, wider_places(place, lands, ways), stretch)]


def bars_of(book, moment, alone):
    """The dict from the deals that count for a wish for one of their cells to the stretches that they bar."""
    full = book.full()
    return {deal.name: barred_by(full, deal, moment) for deal in book if alone or deal.alone}


def free_in(book, film, place, bars):
    """The stretches of the numbers that are free for all cells of the film, lands and ways, by all bars."""
    cells = [(film, land, way) for land in place[0] for way in place[1]]
    names = [name for name in bars if any([cell in book[name] for cell in cells])]
    return (-Window([bars[name] for name in names])).stretches


def wider_places(place, lands, ways):
    """The tuples of lands and ways with one land or one way more."""
    found = [(tuple(sorted(place[0] + (land,))), place[1]) for land in lands if land not in place[0]]
    return found + [(place[0], tuple(sorted(place[1] + (way,)))) for way in ways if way not in place[1]]


def is_free_in_any(free, places, stretch):
    """Whether all numbers of the stretch are free in one of these places."""
    return any([is_within(stretch, other) for place in places for other in free[place]])


def is_free_box(book, film, value, moment, alone=True):
    """Whether any value is a free box of the film, of any lands and ways."""
    check_name(film)
    check_moment(book.calendar, moment)
    if not isinstance(value, tuple) or len(value) != 3:
        return False
    lands, ways, stretch = value
    if not is_lot(lands) or not is_lot(ways) or not is_stretch(stretch):
        return False
    free = free_in(book, film, (lands, ways), bars_of(book, moment, alone))
    return any([is_within(stretch, other) for other in free])


def is_lot(value):
    """Whether any value is a sorted tuple of one or more different NAMES."""
    return isinstance(value, tuple) and len(value) > 0 and are_names(value) and are_sorted(value)
