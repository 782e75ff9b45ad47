"""Marks written with signs in the galley's lines and entries beside them, and read again."""

from galleymarks.errors import BadMark, BadSheet
from galleymarks.marks import MOST_IN_PUT, About, Carry, Put, mark_of
from galleymarks.mending import check_mending
from galleymarks.quarrels import MOST_MARKS, pairs_at_odds
from galleymarks.signs import MOST_IN_GALLEY, SIGNS, is_text

LINE_END = "\n"
BESIDE = " / "
PUT = "put "
HERE = "here "
CARRY = "carry "
FIGURES = "0123456789"
# At a gap a span's end, a middle, a spot and a span's begin stand in this turn.
TURN = ">|^<"


class Writing:
    """What is written of marks that don't quarrel."""

    def __init__(self, marks):
        spans = [mark for mark in marks if mark.span() is not None]
        self.spans = sorted(spans, key=lambda mark: (mark.begin, -mark.end))
        self.carries = [mark for mark in self.spans if isinstance(mark, Carry)]
        self.coming = {mark.spot(): mark for mark in marks if mark.spot() is not None}

    def row_of(self, line, first):
        """The row of a line whose first gap is told."""
        signs = ""
        entries = []
        for place in range(len(line) + 1):
            signs += self.signs_at(first + place) + line[place:place + 1]
            entries.extend(self.entries_at(first + place))
        return BESIDE.join([signs, *entries])

    def signs_at(self, gap):
        """The signs of marks at the gap, in their turn."""
        ends = [mark for mark in self.spans if mark.end == gap]
        middles = [mark for mark in self.spans if isinstance(mark, About) and mark.middle == gap]
        spots = "^" if gap in self.coming else ""
        return ">" * len(ends) + "|" * len(middles) + spots + "<" * len(self.begun_at(gap))

    def entries_at(self, gap):
        """The entries of these signs, in turn."""
        spots = [self.spot_entry(self.coming[gap])] if gap in self.coming else []
        return spots + [self.span_entry(mark) for mark in self.begun_at(gap)]

    def begun_at(self, gap):
        """The marks whose spans begin at the gap, the longest first."""
        return [mark for mark in self.spans if mark.begin == gap]

    def spot_entry(self, mark):
        """The entry of a mark's spot."""
        if isinstance(mark, Put):
            return PUT + mark.text.replace(LINE_END, ";")
        return HERE + self.number_of(mark)

    def span_entry(self, mark):
        """The entry of a mark's span."""
        if isinstance(mark, Carry):
            return CARRY + self.number_of(mark)
        return mark.told()[0]

    def number_of(self, carry):
        """The carry's number, in figures."""
        return str(self.carries.index(carry) + 1)


class Reading:
    """What is read of a written sheet so far."""

    def __init__(self):
        self.signs = []
        # Of each mark that came what it tells, as far as that is read: of a span that
        # hasn't ended no end, of a carry no gap.
        self.found = []
        self.begun = []
        self.carries = 0
        self.heres = {}

    def takes(self, row):
        """Whether the next row is right by itself."""
        line, *entries = row.split(BESIDE)
        if len(entries) != line.count("^") + line.count("<"):
            return False
        used = 0
        ahead = LINE_END
        for sign in line:
            if not is_in_turn(ahead, sign):
                return False
            if sign in "^<":
                right = self.takes_entry(sign, entries[used])
                used += 1
            else:
                right = self.takes_sign(sign)
            if not right:
                return False
            ahead = sign
        return len(self.signs) <= MOST_IN_GALLEY

    def takes_sign(self, sign):
        """Whether a sign without an entry may stand here."""
        if sign == ">":
            return self.ends()
        if sign == "|":
            return self.parts()
        self.signs.append(sign)
        return sign in SIGNS

    def takes_entry(self, sign, entry):
        """Whether a sign may stand here with its entry."""
        if sign == "<":
            return self.begins(entry)
        if entry.startswith(PUT):
            return self.puts(entry[len(PUT):])
        return entry.startswith(HERE) and self.comes(entry[len(HERE):])

    # That signs stand between a span's begin, its middle and its end needs no look: where
    # none stand, all of these are at one gap, and `<`, `|` and `>` are out of turn there.

    def ends(self):
        """Whether a span may end here."""
        if not self.begun:
            return False
        told = self.begun.pop()
        if told[0] == "about" and len(told) == 2:
            return False
        told.append(len(self.signs))
        return True

    def parts(self):
        """Whether the middle of an about may stand here."""
        if not self.begun:
            return False
        told = self.begun[-1]
        if told[0] != "about" or len(told) > 2:
            return False
        told.append(len(self.signs))
        return True

    def begins(self, entry):
        """Whether a span with this entry may begin here."""
        word = entry
        if entry == CARRY + str(self.carries + 1):
            word = "carry"
            self.carries += 1
        elif entry not in ("strike", "about"):
            return False
        told = [word, len(self.signs)]
        self.found.append(told)
        self.begun.append(told)
        return True

    def puts(self, text):
        """Whether this text may be put in here."""
        text = text.replace(";", LINE_END)
        self.found.append(["put", len(self.signs), text])
        return is_text(text, 1, MOST_IN_PUT)

    def comes(self, number):
        """Whether a carry with this number may come here."""
        # The numbers stay figures, as they may be longer than a number that can be read.
        if not is_from_one(number) or number in self.heres:
            return False
        self.heres[number] = len(self.signs)
        return True

    def whole_marks(self):
        """The marks in turn; BadMark where one isn't told to its end."""
        marks = []
        number = 0
        for told in self.found:
            if told[0] == "carry":
                number += 1
                marks.append(mark_of((*told, self.heres.get(str(number)))))
            else:
                marks.append(mark_of(tuple(told)))
        return marks


def is_in_turn(ahead, sign):
    """Whether a sign may stand right behind the one ahead of it."""
    if sign not in TURN or ahead not in TURN:
        return True
    if sign == ahead:
        return sign in "><"
    return TURN.find(ahead) < TURN.find(sign)


def is_from_one(text):
    """Whether it is a number from 1 on, in figures without a nought ahead."""
    return text != "" and text[0] != "0" and all([figure in FIGURES for figure in text])


def written(galley, marks):
    """The written sheet of a galley with marks that fit it and don't quarrel."""
    check_mending(galley, marks)
    writing = Writing(marks)
    rows = []
    first = 0
    for line in galley.split(LINE_END):
        rows.append(writing.row_of(line, first))
        first += len(line) + 1
    return LINE_END.join(rows)


def read(text):
    """The galley and the marks of a written sheet."""
    if not isinstance(text, str):
        raise BadSheet(0)
    rows = text.split(LINE_END)
    reading = Reading()
    for count, row in enumerate(rows):
        if count > 0:
            reading.signs.append(LINE_END)
        if not reading.takes(row):
            raise BadSheet(count)
    try:
        marks = reading.whole_marks()
    except BadMark:
        raise BadSheet(len(rows)) from None
    if len(marks) > MOST_MARKS or len(reading.heres) > reading.carries or pairs_at_odds(marks):
        raise BadSheet(len(rows))
    return "".join(reading.signs), marks
