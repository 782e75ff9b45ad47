"""Marks told anew on the text as it stands once other marks are done."""

from galleymarks.errors import BadMark, BadOrder
from galleymarks.marks import About, Carry, Put, Strike, is_mark
from galleymarks.mending import Course, check_fitting, check_mending
from galleymarks.quarrels import pairs_at_odds, refuse_first
from galleymarks.signs import is_number


def later(galley, marks, mark):
    """The mark on the text that the marks mend, or None if it changes nothing there."""
    check_fitting(galley, marks)
    if not is_mark(mark) or not mark.fits(galley):
        raise BadMark("a mark that fits the galley is told later")
    refuse_first(pairs_at_odds([*marks, mark]))
    return anew(len(galley), marks, mark)


def one_by_one(galley, marks, order):
    """Each mark, in the order, told later behind those ahead of it."""
    check_mending(galley, marks)
    if not is_order(order, len(marks)):
        raise BadOrder("an order is a list of the counts of all marks, each once")
    in_turn = [marks[count] for count in order]
    return [anew(len(galley), in_turn[:done], mark) for done, mark in enumerate(in_turn)]


def is_order(value, size):
    """Whether it is a list of all counts of so many things, each once."""
    if not isinstance(value, list) or not all([is_number(count) for count in value]):
        return False
    return sorted(value) == list(range(size))


def anew(size, marks, mark):
    """The mark told later, on a galley of so many signs, of marks that fit it and don't quarrel."""
    if isinstance(mark, Put):
        return put_anew(size, marks, mark)
    # No other mark parts what comes of a room, or of a strike's span: it stands together
    # in the text, and the first that comes of it tells where.
    course = Course(marks)
    text = course.whole(size)
    if isinstance(mark, Strike):
        begin = text.index(mark.begin)
        return Strike(begin, begin + mark.end - mark.begin)
    parts = [course.room(room, None) for room in mark.rooms()]
    if not all([len(part) > 0 for part in parts]):
        return None
    begin = text.index(parts[0][0])
    if isinstance(mark, About):
        middle = begin + len(parts[0])
        return About(begin, middle, middle + len(parts[1]))
    return carry_anew(size, [*marks, mark], begin, parts[0])


def put_anew(size, marks, mark):
    """The put at the gap where its first sign comes."""
    text = Course([*marks, mark]).whole(size)
    return Put(text.index((len(marks), 0)), mark.text)


def carry_anew(size, marks, begin, carried):
    """The last of the marks, which carries what stands from the begin on, or None if that stays."""
    place = Course(marks).whole(size).index(carried[0])
    if place == begin:
        return None
    end = begin + len(carried)
    if place < begin:
        return Carry(begin, end, place)
    # Ahead of a gap behind them the carried signs count, too, while they haven't gone there.
    return Carry(begin, end, place + len(carried))
