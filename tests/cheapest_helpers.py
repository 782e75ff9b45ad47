"""The least price searched in another way, and what marks and heights must be told by rules alone."""

import itertools
import re

from galleymarks.marks import About, Put, Strike
from tests.helpers import text_by_gaps


def cost(mark):
    """The price, by what a mark tells."""
    word, *fields = mark.told()
    if word == "put":
        return 2 + len(fields[1])
    if word == "strike":
        return 2 + fields[1] - fields[0]
    return 2 + min(fields[1] - fields[0], fields[2] - fields[1])


def spans_apart(size, begin=0):
    """All lists of strikes and abouts of which none has a sign in common with another one."""
    if begin == size:
        yield []
        return
    for rest in spans_apart(size, begin + 1):
        yield rest
    for end in range(begin + 1, size + 1):
        marks = [Strike(begin, end), *(About(begin, middle, end) for middle in range(begin + 1, end))]
        for mark, rest in itertools.product(marks, list(spans_apart(size, end))):
            yield [mark, *rest]


def ways(galley):
    """Each way to mark a galley: a pattern of what it may become, its count of signs and a price without them."""
    found = {}
    for marks in spans_apart(len(galley)):
        pieces = [""] * (2 * len(galley) + 1)
        gaps = set(range(len(galley) + 1))
        for at, sign in enumerate(galley):
            pieces[2 * at + 1] = sign
        for mark in marks:
            begin, end = mark.span()
            gaps -= set(range(begin + 1, end))
            pieces[2 * begin + 1:2 * end] = [""] * (2 * (end - begin) - 1)
            if isinstance(mark, About):
                pieces[2 * begin + 1] = galley[mark.middle:end] + galley[begin:mark.middle]
        left = len("".join(pieces))
        for many in range(len(gaps) + 1):
            for chosen in itertools.combinations(sorted(gaps), many):
                row = [re.escape(piece) for piece in pieces]
                for gap in chosen:
                    row[2 * gap] = "(?:[^!]+)"
                key = "".join(row), left
                price = sum(map(cost, marks)) + 2 * many
                found[key] = min(price, found.get(key, price))
    return [(re.compile(pattern), left, price) for (pattern, left), price in found.items()]


def least_price(found, other):
    """The least price by which one of the ways makes the other galley."""
    return min(
        price + len(other) - left
        for pattern, left, price in found
        if left <= len(other) and pattern.fullmatch(other)
    )


def marks_are_right(marks, one, other):
    """Whether they are strikes, puts and abouts apart from one another that mend the one to the other."""
    if not all(isinstance(mark, (Strike, Put, About)) for mark in marks):
        return False
    spans = [mark.span() for mark in marks if mark.span()]
    spots = [mark.spot() for mark in marks if mark.spot() is not None]
    if max([0, *[end for _, end in spans], *spots]) > len(one) or len(set(spots)) < len(spots):
        return False
    if any(set(range(*span)) & set(range(*other_span)) for span, other_span in itertools.combinations(spans, 2)):
        return False
    if any(begin < spot < end for begin, end in spans for spot in spots):
        return False
    return text_by_gaps(one, marks) == other


def heights_are_right(heights, one, other):
    """Whether they are of the asked sizes, 0 for none, and none is greater than can be by another one."""
    if len(heights) != len(one) + 1 or any(len(row) != len(other) + 1 for row in heights) or heights[0][0] != 0:
        return False
    for (at, row), beside in itertools.product(enumerate(heights), range(len(other) + 1)):
        bounds = [heights[at - many][beside] + 2 + many for many in range(1, at + 1)]
        bounds += [row[beside - many] + 2 + many for many in range(1, beside + 1)]
        if at and beside and one[at - 1] == other[beside - 1]:
            bounds.append(heights[at - 1][beside - 1])
        for many in range(2, min(at, beside) + 1):
            signs, text = one[at - many:at], other[beside - many:beside]
            for part in range(1, many):
                if signs[part:] + signs[:part] == text:
                    bounds.append(heights[at - many][beside - many] + 2 + min(part, many - part))
        if bounds and row[beside] > min(bounds):
            return False
    return True


def answer_is_right(marks, heights, one, other):
    """Whether the marks are right, the heights are, and they meet."""
    if not marks_are_right(marks, one, other) or not heights_are_right(heights, one, other):
        return False
    return heights[-1][-1] == sum(map(cost, marks))
