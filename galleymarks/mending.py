"""The mended text of a galley, and where each of its signs comes from."""

from galleymarks.errors import BadMarks
from galleymarks.marks import About, Put
from galleymarks.quarrels import check_marks, pairs_at_odds, refuse_first
from galleymarks.signs import check_galley


class Course:
    """How texts are gone through by marks that fit them, no two of which quarrel."""

    def __init__(self, marks):
        self.marks = list(marks)
        self.coming = {mark.spot(): count for count, mark in enumerate(marks) if mark.spot() is not None}

    def whole(self, size):
        """The origins of the mended text of a galley of so many signs."""
        told = self.at(0) + self.room((0, size), None)
        # The one gap of an empty galley is both its first and its last one.
        if size > 0:
            told.extend(self.at(size))
        return told

    def room(self, place, owner):
        """The origins of what comes between two gaps; the owner's own span is no other mark's."""
        gap, end = place
        told = []
        while gap < end:
            if gap > place[0]:
                told.extend(self.at(gap))
            count = self.longest((gap, end), owner)
            if count is None:
                told.append(gap)
                gap += 1
            else:
                told.extend(self.instead(count))
                gap = self.marks[count].span()[1]
        return told

    def at(self, gap):
        """The origins of what is put in at the gap or carried to it."""
        count = self.coming.get(gap)
        if count is None:
            return []
        mark = self.marks[count]
        if isinstance(mark, Put):
            return [(count, place) for place in range(len(mark.text))]
        return self.room(mark.span(), count)

    def longest(self, place, owner):
        """The count of the mark with the longest span from a gap on and no further than another."""
        found = None
        end = place[0]
        for count, mark in enumerate(self.marks):
            span = mark.span()
            if count == owner or span is None or span[0] != place[0]:
                continue
            if end < span[1] <= place[1]:
                found = count
                end = span[1]
        return found

    def instead(self, count):
        """The origins of what comes in place of a mark's span."""
        mark = self.marks[count]
        if not isinstance(mark, About):
            return []
        first, second = mark.rooms()
        return self.room(second, count) + self.room(first, count)


def mended(galley, marks):
    """The text of the galley once all the marks are done."""
    check_mending(galley, marks)
    return text_by(galley, marks)


def origins(galley, marks):
    """Of each sign of the mended text its count in the galley, or the put's and the sign's in its text."""
    check_mending(galley, marks)
    return Course(marks).whole(len(galley))


def check_mending(galley, marks):
    """Refuse what is no galley with marks that fit it and don't quarrel."""
    check_fitting(galley, marks)
    refuse_first(pairs_at_odds(marks))


def check_fitting(galley, marks):
    """Refuse what is no galley with a list of at most 30 marks that fit it."""
    check_galley(galley)
    check_marks(marks)
    if not all([mark.fits(galley) for mark in marks]):
        raise BadMarks("a mark in the list doesn't fit the galley")


def text_by(galley, marks):
    """The mended text by marks, however many, that fit the galley and don't quarrel."""
    return "".join([sign_of(origin, galley, marks) for origin in Course(marks).whole(len(galley))])


def sign_of(origin, galley, marks):
    """The sign that comes from there."""
    if isinstance(origin, tuple):
        count, place = origin
        return marks[count].text[place]
    return galley[origin]
