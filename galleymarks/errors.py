"""What the program refuses, a class for each kind of refusal."""


class GalleyError(ValueError):
    """Any refusal of this program."""


class BadGalley(GalleyError):
    """No galley: no text of signs, or too long a one."""


class BadMark(GalleyError):
    """No mark, or not one that is asked for here."""


class BadMarks(GalleyError):
    """No list of marks, or not one that is asked for here."""


class BadOrder(GalleyError):
    """No order of all the marks."""


class BadHands(GalleyError):
    """No hands for a sheet."""


class BadHand(GalleyError):
    """No hand of the sheet."""


class BadNumber(GalleyError):
    """No number of a mark, or not one that is asked for here."""


class BadSheet(GalleyError):
    """No written sheet; `row` is the count of the row that is wrong."""

    def __init__(self, row):
        super().__init__(f"row {row} of the written sheet is wrong")
        self.row = row


class Quarrel(GalleyError):
    """Marks that quarrel; `one` and `other` tell the first pair of them."""

    def __init__(self, one, other):
        super().__init__(f"mark {one} and mark {other} quarrel")
        self.one = one
        self.other = other
