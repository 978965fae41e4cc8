"""Sums, dates, rings and rows of clauses, told as plain lists.

A clause (one, other, number) is a step from one to other with the length number. A clause may have the
same moment twice here: it is kept by all dates if its number is not below 0, and by none otherwise.
"""

from letdays.values import FIXED


def sum_of(clauses):
    """The sum of the numbers of the clauses."""
    return sum([clause[2] for clause in clauses])


def clause_between(point, other, number=0):
    """The clause that the point is at most number days behind the other one."""
    return (point[0], other[0], other[1] - point[1] + number)


def labels_of(moments, label):
    """The moments and `day`, each with this label."""
    labels = {FIXED: label}
    for moment in moments:
        labels[moment] = label
    return labels


def lowered(labels, clauses):
    """The labels, lowered until all clauses hold; the clause that last lowered each; a moment that still falls.

    A label of None is above each number. Without a ring, no label falls in the last of as many rounds as
    there are labels: a row has one clause less than moments. So the last of the three is None then.
    """
    found = dict(labels)
    by = {}
    falling = None
    for _ in labels:
        falling = None
        for clause in clauses:
            one, other, number = clause
            if found[other] is not None and (found[one] is None or found[other] + number < found[one]):
                found[one] = found[other] + number
                by[one] = clause
                falling = one
        if falling is None:
            break
    return found, by, falling


def dates_in(moments, clauses):
    """Dates of these moments that keep these clauses; None if there are none."""
    # No row is longer than all numbers together, so labels that begin so far up never come into the way.
    far = sum([abs(clause[2]) for clause in clauses])
    labels = labels_of(moments, far)
    labels[FIXED] = 0
    found, _, falling = lowered(labels, clauses)
    if falling is not None:
        return None
    return {moment: found[moment] for moment in sorted(moments)}


def ring_in(moments, clauses):
    """Clauses that come round with a sum below 0, no moment twice; None if there are none."""
    labels = labels_of(moments, 0)
    _, by, at = lowered(labels, clauses)
    if at is None:
        return None
    # A moment that still falls hangs on a ring: as many steps as there are moments lead onto it.
    for _ in labels:
        at = by[at][1]
    ring = [by[at]]
    while ring[-1][1] != at:
        ring.append(by[ring[-1][1]])
    return ring


def nearest(moments, clauses, goal):
    """For each moment the least sum of a row to the goal, or None; and the first clause of such a row.

    There must be dates that keep the clauses.
    """
    labels = labels_of(moments, None)
    labels[goal] = 0
    found, by, _ = lowered(labels, clauses)
    return found, by


def least_row(moments, clauses, one, other):
    """A row with the least sum from one to other; None if there is none."""
    found, by = nearest(moments, clauses, other)
    if found[one] is None:
        return None
    path = []
    at = one
    while at != other:
        path.append(by[at])
        at = by[at][1]
    return path
