"""Answers that bear what shows that they are right."""

from galleymarks.marks import About, Put, Strike
from galleymarks.mending import text_by
from galleymarks.quarrels import is_span_in, is_spot_in, pairs_at_odds
from galleymarks.signs import is_number
from galleymarks.steps import price_of, steps_to


class Answer:
    """An answer of any kind."""


class Cheapest(Answer):
    """Marks from one galley to another, and heights that show that none do it for less."""

    def __init__(self, marks, heights):
        self.marks = list(marks)
        self.heights = [list(row) for row in heights]

    def shows(self, one, other):
        """Whether the marks mend the one galley to the other, at the least price by the heights."""
        if not are_for(self.marks, one, other) or not are_low(self.heights, one, other):
            return False
        return self.heights[-1][-1] == sum([price_of(mark) for mark in self.marks])


def are_for(marks, one, other):
    """Whether they are marks side by side that mend the one galley to the other."""
    if not all([isinstance(mark, (Strike, Put, About)) and mark.fits(one) for mark in marks]):
        return False
    return are_side_by_side(marks) and text_by(one, marks) == other


def are_side_by_side(marks):
    """Whether no two quarrel, no span lies in another one and no spot in a span."""
    if pairs_at_odds(marks):
        return False
    spans = [mark.span() for mark in marks if mark.span() is not None]
    return not any([
        is_spot_in(mark.spot(), span) or (mark.span() != span and is_span_in(mark.span(), span))
        for span in spans
        for mark in marks
    ])


def are_low(heights, one, other):
    """Whether there is a height for all counts of signs of both, nought for none, and none is too great."""
    if [len(row) for row in heights] != [len(other) + 1] * (len(one) + 1):
        return False
    if not all([is_number(height) for row in heights for height in row]):
        return False
    return heights[0][0] == 0 and all([
        heights[at][beside] <= heights[ahead][ahead_beside] + cost
        for at in range(len(one) + 1)
        for beside in range(len(other) + 1)
        for ahead, ahead_beside, cost, _ in steps_to(one, other, at, beside)
    ])
