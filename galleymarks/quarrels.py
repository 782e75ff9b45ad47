"""The marks that quarrel, pair by pair."""

from galleymarks.errors import BadMarks, Quarrel
from galleymarks.marks import About, Carry, Strike, is_mark

MOST_MARKS = 30


def quarrels(marks):
    """All pairs of counts of marks that quarrel, the lesser count first, in order."""
    check_marks(marks)
    return pairs_at_odds(marks)


def check_marks(marks):
    """Refuse what is no list of at most 30 marks."""
    if not isinstance(marks, list) or len(marks) > MOST_MARKS:
        raise BadMarks("the marks are a list of at most 30")
    if not all([is_mark(mark) for mark in marks]):
        raise BadMarks("something in the list is no mark")


def pairs_at_odds(marks):
    """The pairs of counts that quarrel, of marks however many."""
    return [
        (one, other)
        for one in range(len(marks))
        for other in range(one + 1, len(marks))
        if are_at_odds(marks[one], marks[other])
    ]


def refuse_first(pairs):
    """Refuse marks by the first of the pairs that quarrel, if there is one."""
    if pairs:
        one, other = pairs[0]
        raise Quarrel(one, other)


def are_at_odds(one, other):
    """Whether two marks quarrel, in whichever turn they are handed in."""
    if are_same_spots(one.spot(), other.spot()) or are_crossing(one.span(), other.span()):
        return True
    return bars(one, other) or bars(other, one)


def are_same_spots(one, other):
    """Whether both are gaps, and the same one."""
    return one is not None and one == other


def are_crossing(one, other):
    """Whether spans are the same, or have signs in common with neither in the other."""
    if one is None or other is None:
        return False
    if one == other:
        return True
    if is_span_in(one, other) or is_span_in(other, one):
        return False
    return one[0] < other[1] and other[0] < one[1]


def is_span_in(span, place):
    """Whether there is a span and all its signs lie in the room or span."""
    return span is not None and place[0] <= span[0] and span[1] <= place[1]


def is_spot_in(spot, place):
    """Whether there is a gap and it lies in the room or span, not at its edges."""
    return spot is not None and place[0] < spot < place[1]


def bars(one, other):
    """Whether one mark, by its kind or its rooms, leaves no way to do the other."""
    return strikes_out(one, other) or parts(one, other) or draws_in(one, other)


def strikes_out(one, other):
    """Whether one is a strike in whose span the other's span or spot lies."""
    if not isinstance(one, Strike):
        return False
    return is_span_in(other.span(), one.span()) or is_spot_in(other.spot(), one.span())


def parts(one, other):
    """Whether one is an about at whose middle the other is put, or divided."""
    if not isinstance(one, About):
        return False
    if other.spot() == one.middle:
        return True
    if not is_span_in(other.span(), one.span()):
        return False
    return not any([is_span_in(other.span(), room) for room in one.rooms()])


def draws_in(one, other):
    """Whether the other is a carry into a room of the one, from outside of this room."""
    if not isinstance(other, Carry):
        return False
    return any([
        is_spot_in(other.spot(), room) and not is_span_in(other.span(), room)
        for room in one.rooms()
    ])
