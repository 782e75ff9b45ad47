"""The four kinds of marks on a galley."""

from galleymarks.errors import BadMark
from galleymarks.signs import check_galley, is_number, is_text

MOST_IN_PUT = 20


class Mark:
    """A mark of any kind; what all kinds tell, each tells in its own way."""

    def span(self):
        """The pair of its begin and its end, or None."""
        raise NotImplementedError("a mark isn't made by itself")

    def spot(self):
        """The gap to which something comes, or None."""
        raise NotImplementedError("a mark isn't made by itself")

    def rooms(self):
        """The pairs of gaps between which other marks may lie in its span."""
        raise NotImplementedError("a mark isn't made by itself")

    def told(self):
        """The tuple of its kind's word and its fields."""
        raise NotImplementedError("a mark isn't made by itself")

    def fits(self, galley):
        """Whether none of its numbers is greater than the galley's count of signs."""
        raise NotImplementedError("a mark isn't made by itself")


class Strike(Mark):
    """The signs from the begin on and ahead of the end go."""

    def __init__(self, begin, end):
        if not are_rising([begin, end]):
            raise BadMark("a strike is of a begin and a greater end")
        self.begin = begin
        self.end = end

    def span(self):
        return self.begin, self.end

    def spot(self):
        return None

    def rooms(self):
        return []

    def told(self):
        return "strike", self.begin, self.end

    def fits(self, galley):
        return reaches_no_more(self.end, galley)


class Put(Mark):
    """A text comes in at the gap."""

    def __init__(self, gap, text):
        if not are_rising([gap]):
            raise BadMark("a put is of a gap")
        if not is_text(text, 1, MOST_IN_PUT):
            raise BadMark("a put is of a text of 1 to 20 signs")
        self.gap = gap
        self.text = text

    def span(self):
        return None

    def spot(self):
        return self.gap

    def rooms(self):
        return []

    def told(self):
        return "put", self.gap, self.text

    def fits(self, galley):
        return reaches_no_more(self.gap, galley)


class About(Mark):
    """The signs ahead of the middle and those from it on change places."""

    def __init__(self, begin, middle, end):
        if not are_rising([begin, middle, end]):
            raise BadMark("an about is of a begin, a greater middle and a still greater end")
        self.begin = begin
        self.middle = middle
        self.end = end

    def span(self):
        return self.begin, self.end

    def spot(self):
        return None

    def rooms(self):
        return [(self.begin, self.middle), (self.middle, self.end)]

    def told(self):
        return "about", self.begin, self.middle, self.end

    def fits(self, galley):
        return reaches_no_more(self.end, galley)


class Carry(Mark):
    """The signs from the begin on and ahead of the end are carried to the gap."""

    def __init__(self, begin, end, gap):
        if not are_rising([begin, end]) or not are_rising([gap]):
            raise BadMark("a carry is of a begin, a greater end and a gap")
        if begin <= gap <= end:
            raise BadMark("a carry's gap is less than its begin or greater than its end")
        self.begin = begin
        self.end = end
        self.gap = gap

    def span(self):
        return self.begin, self.end

    def spot(self):
        return self.gap

    def rooms(self):
        return [(self.begin, self.end)]

    def told(self):
        return "carry", self.begin, self.end, self.gap

    def fits(self, galley):
        return reaches_no_more(max(self.end, self.gap), galley)


def are_rising(values):
    """Whether these are numbers from 0 on, each greater than the one ahead of it."""
    least = 0
    for value in values:
        if not is_number(value) or value < least:
            return False
        least = value + 1
    return True


def reaches_no_more(greatest, galley):
    """Whether the greatest of a mark's numbers is a gap of the galley."""
    check_galley(galley)
    return greatest <= len(galley)


def is_mark(value):
    """Whether it is a mark of one of the four kinds."""
    return isinstance(value, (Strike, Put, About, Carry))


def mark_of(told):
    """The mark that tells this tuple."""
    # A thing that is no text may still say that it equals one.
    if not isinstance(told, tuple) or not told or not isinstance(told[0], str):
        raise BadMark("a mark is told as a tuple of its word and its fields")
    word = told[0]
    count = len(told) - 1
    if word == "strike" and count == 2:
        return Strike(told[1], told[2])
    if word == "put" and count == 2:
        return Put(told[1], told[2])
    if word == "about" and count == 3:
        return About(told[1], told[2], told[3])
    if word == "carry" and count == 3:
        return Carry(told[1], told[2], told[3])
    raise BadMark("no kind of mark has this word with so many fields")
