"""The prices of marks, and the steps by which two galleys are gone through side by side."""

from galleymarks.marks import About, Put, Strike

FOR_EACH_MARK = 2


def price_of(mark):
    """The price of a strike, a put or an about."""
    if isinstance(mark, Put):
        return FOR_EACH_MARK + len(mark.text)
    if isinstance(mark, Strike):
        return FOR_EACH_MARK + mark.end - mark.begin
    return FOR_EACH_MARK + min(mark.middle - mark.begin, mark.end - mark.middle)


def steps_to(one, other, at, beside):
    """All last steps to so many signs of one galley, mended to so many of the other one.

    Each tells how many of both there were ahead of it, its price, and an about's middle or None.
    """
    found = []
    if at > 0 and beside > 0 and one[at - 1] == other[beside - 1]:
        found.append((at - 1, beside - 1, 0, None))
    found.extend([(at - many, beside, FOR_EACH_MARK + many, None) for many in range(1, at + 1)])
    found.extend([(at, beside - many, FOR_EACH_MARK + many, None) for many in range(1, beside + 1)])
    for many in range(2, min(at, beside) + 1):
        abouts = abouts_to(one, at, other[beside - many:beside])
        found.extend([(at - many, beside - many, price_of(about), about.middle) for about in abouts])
    return found


def abouts_to(one, at, text):
    """The abouts that end at a gap of the galley and make this text of its signs ahead."""
    begin = at - len(text)
    return [
        About(begin, middle, at)
        for middle in range(begin + 1, at)
        if one[middle:at] + one[begin:middle] == text
    ]
