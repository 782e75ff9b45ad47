"""What several tests need: marks by the dozen, and the mended text told in another way."""

import itertools

from galleymarks.marks import About, Carry, Put, Strike
from galleymarks.quarrels import quarrels

NO_GALLEYS = (
    None, True, 0, 7, b"", b"ab", [], ["a"], (), ("a", "b"), {}, {"a"}, object(), str,
    "a" * 81, "A", "ab;", "0", "\t", "a\r", "\u00e4", "\ud800",
)
NO_LISTS = (None, True, 0, "", "ab", b"", (), {}, object(), list, iter([]), Put(0, "a"))
NO_MARKS = (None, True, 0, "a", "put", ("put", 0, "a"), [], [Put(0, "a")], {}, object(), Put)
NO_NUMBERS = (True, False, None, "0", "", b"0", [], [0], (), (0,), {}, object(), int, -1, -(10 ** 5000))


def every_mark(count):
    """Each mark that fits a text of so many signs, puts with one text."""
    gaps = range(count + 1)
    found = [Put(gap, "a") for gap in gaps]
    for begin, end in itertools.combinations(gaps, 2):
        found.append(Strike(begin, end))
        found.extend(About(begin, middle, end) for middle in range(begin + 1, end))
        found.extend(Carry(begin, end, gap) for gap in gaps if gap < begin or gap > end)
    return found


def tolds(marks):
    """What the marks tell, where one may be None."""
    return [None if mark is None else mark.told() for mark in marks]


def done(text, mark):
    """The text once this mark alone is done, or as it is for None."""
    if mark is None:
        return text
    word, *fields = mark.told()
    if word == "put":
        return text[:fields[0]] + fields[1] + text[fields[0]:]
    begin, end = fields[0], fields[2] if word == "about" else fields[1]
    if word == "strike":
        return text[:begin] + text[end:]
    if word == "about":
        return text[:begin] + text[fields[1]:end] + text[begin:fields[1]] + text[end:]
    gap = fields[2]
    if gap < begin:
        return text[:gap] + text[begin:end] + text[gap:begin] + text[end:]
    return text[:begin] + text[end:gap] + text[begin:end] + text[gap:]


class Gap:
    """A gap of a galley with what has come to it."""

    def __init__(self):
        self.came = []


def by_gaps(size, marks):
    """The origins in another way than the document's: mark by mark, the shortest spans first.

    Gaps are things beside the signs, what comes to a gap goes where the gap goes, and a span
    is what stands between its two gaps. No shorter mark has taken away the gaps of a longer one.
    """
    gaps = [Gap() for _ in range(size + 1)]
    row = [gaps[0]]
    for sign in range(size):
        row += [sign, gaps[sign + 1]]
    lengths = {count: mark.span()[1] - mark.span()[0] for count, mark in enumerate(marks) if mark.span()}
    for count in sorted(range(len(marks)), key=lambda count: lengths.get(count, 0)):
        word, *fields = marks[count].told()
        if word == "put":
            gaps[fields[0]].came = [(count, place) for place in range(len(fields[1]))]
            continue
        begin, end = (row.index(gaps[gap]) for gap in marks[count].span())
        between = row[begin + 1:end]
        row[begin + 1:end] = []
        if word == "carry":
            gaps[fields[2]].came = between
        if word == "about":
            middle = between.index(gaps[fields[1]])
            row[begin + 1:begin + 1] = between[middle + 1:] + [gaps[fields[1]]] + between[:middle]
    return flat(row)


def text_by_gaps(galley, marks):
    """The mended text by these origins, of marks however many."""
    return "".join([
        marks[origin[0]].told()[2][origin[1]] if isinstance(origin, tuple) else galley[origin]
        for origin in by_gaps(len(galley), marks)
    ])


def flat(row):
    """The signs of a row, what has come to its gaps among them."""
    found = []
    for thing in row:
        found.extend(flat(thing.came) if isinstance(thing, Gap) else [thing])
    return found


class Dice:
    """Numbers that look thrown, but are the same at each run."""

    def __init__(self, seed):
        self.state = seed

    def below(self, many):
        self.state = (self.state * 6364136223846793005 + 1442695040888963407) % 2 ** 64
        return (self.state >> 33) % many

    def shuffled(self, things):
        """The things in another turn."""
        left, found = list(things), []
        while left:
            found.append(left.pop(self.below(len(left))))
        return found

    def mark(self, size):
        """A mark that fits a text of so many signs, of at least two."""
        word = self.below(4)
        if word == 0:
            return Put(self.below(size + 1), "xyz, .\nwvu"[:1 + self.below(10)])
        gaps = sorted(self.shuffled(range(size + 1))[:3])
        if word == 1:
            return Strike(gaps[0], gaps[0] + 1 + self.below(min(4, size - gaps[0])))
        if word == 2:
            return About(*gaps)
        return Carry(*[(gaps[0], gaps[1], gaps[2]), (gaps[1], gaps[2], gaps[0])][self.below(2)])

    def peaceful(self, size, most, tries):
        """At most so many marks that fit and don't quarrel, of so many tries."""
        found = []
        for _ in range(tries):
            mark = self.mark(size)
            if len(found) < most and not any(quarrels([other, mark]) for other in found):
                found.append(mark)
        return found
