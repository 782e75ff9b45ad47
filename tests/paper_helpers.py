"""Written sheets told in another way: by events to write them, by patterns to read them."""

import re

from galleymarks.marks import Carry, Put, mark_of
from galleymarks.errors import BadMark
from galleymarks.quarrels import quarrels

ENTRY = r"strike|about|carry [1-9][0-9]*|here [1-9][0-9]*|put [a-z .,;]{1,20}"
ROW = re.compile(rf"([^/]*?)((?: / (?:{ENTRY}))*)")
LINE = re.compile(r"(?:>*\|?\^?<*[a-z .,])*>*\|?\^?<*")
SPOTS, SPANS = ("put", "here"), ("strike", "about", "carry")


def paper_by_events(galley, marks):
    """The written sheet, by one list of all that stands at gaps."""
    carries = sorted((mark.begin, -mark.end) for mark in marks if isinstance(mark, Carry))
    events = []
    for mark in marks:
        word, number = mark.told()[0], ""
        if word == "carry":
            number = str(carries.index((mark.begin, -mark.end)) + 1)
            events.append((mark.gap, 2, 0, "^", f" / here {number}"))
        if word == "put":
            events.append((mark.gap, 2, 0, "^", " / put " + mark.text.replace("\n", ";")))
            continue
        if word == "about":
            events.append((mark.middle, 1, 0, "|", ""))
        events.append((mark.end, 0, 0, ">", ""))
        events.append((mark.begin, 3, -mark.end, "<", f" / {word} {number}".rstrip()))
    line, beside, rows = "", "", []
    for gap in range(len(galley) + 1):
        for at, _, _, sign, entry in sorted(events):
            if at == gap:
                line, beside = line + sign, beside + entry
        if galley[gap:gap + 1] in ("\n", ""):
            rows.append(line + beside)
            line = beside = ""
        line += galley[gap:gap + 1].strip("\n")
    return "\n".join(rows)


def in_turn_of_signs(marks):
    """The marks as their `^` and `<` stand on a written sheet."""
    return sorted(marks, key=lambda mark: (mark.gap, 0, 0) if isinstance(mark, Put) else (mark.begin, 1, -mark.end))


class Found:
    """What the patterns find on a sheet, row by row."""

    def __init__(self):
        self.told, self.begun, self.heres, self.carries, self.size = [], [], {}, 0, 0

    def is_wrong(self, row):
        """Whether a row is wrong by itself."""
        parts = ROW.fullmatch(row)
        if not parts or not LINE.fullmatch(parts[1]):
            return True
        entries = [entry.partition(" ")[::2] for entry in parts[2].split(" / ")[1:]]
        told = re.findall(r"[\^<]", parts[1])
        if len(told) != len(entries):
            return True
        if any(entry[0] not in {"^": SPOTS, "<": SPANS}[sign] for sign, entry in zip(told, entries)):
            return True
        # What the parts of a sign tell is gone through although one of them is wrong already.
        return any([self.sign_is_wrong(sign, entries) for sign in parts[1]]) or self.size > 80

    def sign_is_wrong(self, sign, entries):
        if sign == "^":
            return self.spot_is_wrong(*entries.pop(0))
        if sign == "<":
            word, number = entries.pop(0)
            self.carries += word == "carry"
            span = {"word": word, "begin": self.size}
            self.told.append(span)
            self.begun.append(span)
            return word == "carry" and number != str(self.carries)
        if sign not in "|>":
            self.size += 1
            return False
        span = (self.begun or [{"word": None}])[-1]
        if sign == "|":
            wrong = span["word"] != "about" or "middle" in span
            span["middle"] = self.size
            return wrong
        self.begun[-1:] = []
        span["end"] = self.size
        return span["word"] is None or (span["word"] == "about") != ("middle" in span)

    def spot_is_wrong(self, word, rest):
        if word == "put":
            self.told.append({"word": word, "gap": self.size, "text": rest.replace(";", "\n")})
            return False
        wrong = rest in self.heres
        self.heres[rest] = self.size
        return wrong

    def marks(self):
        """The marks, or None if these are none or some of them quarrel."""
        carries = [span for span in self.told if span["word"] == "carry"]
        if self.begun or sorted(self.heres) != sorted(str(at + 1) for at in range(len(carries))):
            return None
        for number, span in enumerate(carries, start=1):
            span["gap"] = self.heres[str(number)]
        names = ("word", "begin", "middle", "end", "gap", "text")
        try:
            marks = [mark_of(tuple(span[name] for name in names if name in span)) for span in self.told]
        except BadMark:
            return None
        return None if len(marks) > 30 or quarrels(marks) else marks


def read_by_patterns(text):
    """The galley and what its marks tell, or the row that is wrong."""
    found, rows = Found(), text.split("\n")
    for count, row in enumerate(rows):
        found.size += count > 0
        if found.is_wrong(row):
            return count
    marks = found.marks()
    if marks is None:
        return len(rows)
    galley = "\n".join(re.sub(r"[>|^<]", "", ROW.fullmatch(row)[1]) for row in rows)
    return galley, [mark.told() for mark in marks]
