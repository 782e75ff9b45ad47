"""The cheapest marks from one galley to another."""

from galleymarks.answers import Cheapest
from galleymarks.errors import BadGalley, BadMark
from galleymarks.marks import About, Put, Strike
from galleymarks.signs import is_text
from galleymarks.steps import price_of, steps_to

MOST_SIGNS = 16


def price(mark):
    """What a strike, a put or an about costs."""
    if not isinstance(mark, (Strike, Put, About)):
        raise BadMark("a strike, a put or an about has a price")
    return price_of(mark)


def cheapest(one, other):
    """Marks that mend the one galley to the other at the least price, with the heights that show it."""
    check_short(one)
    check_short(other)
    heights = least_heights(one, other)
    return Cheapest(marks_by(one, other, heights), heights)


def check_short(value):
    """Refuse what is no galley of at most 16 signs."""
    if not is_text(value, 0, MOST_SIGNS):
        raise BadGalley("a galley is here a text of at most 16 signs")


def least_heights(one, other):
    """The least price for all counts of signs of both galleys."""
    heights = []
    for at in range(len(one) + 1):
        heights.append([])
        for beside in range(len(other) + 1):
            costs = [
                heights[ahead][ahead_beside] + cost
                for ahead, ahead_beside, cost, _ in steps_to(one, other, at, beside)
            ]
            heights[at].append(min(costs, default=0))
    return heights


def marks_by(one, other, heights):
    """The marks of a cheapest way, found from its end on."""
    marks = []
    at = len(one)
    beside = len(other)
    while at > 0 or beside > 0:
        ahead, ahead_beside, middle = step_back(one, other, heights, at, beside)
        # Two puts never come at one gap, as a single one with both texts costs less.
        if middle is not None:
            marks.append(About(ahead, middle, at))
        elif ahead_beside == beside:
            marks.append(Strike(ahead, at))
        elif ahead == at:
            marks.append(Put(at, other[ahead_beside:beside]))
        at = ahead
        beside = ahead_beside
    return marks[::-1]


def step_back(one, other, heights, at, beside):
    """Where a last step comes from that makes the height what it is, and an about's middle or None."""
    return [
        (ahead, ahead_beside, middle)
        for ahead, ahead_beside, cost, middle in steps_to(one, other, at, beside)
        if heights[ahead][ahead_beside] + cost == heights[at][beside]
    ][0]
