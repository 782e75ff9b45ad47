"""Sheets on which several hands make marks, and let them stand."""

from galleymarks.errors import BadHand, BadHands, BadMark, BadNumber
from galleymarks.marks import is_mark
from galleymarks.mending import text_by
from galleymarks.quarrels import pairs_at_odds, refuse_first
from galleymarks.signs import check_galley, is_number

LETTERS = "abcdefghijklmnopqrstuvwxyz"
MOST_HANDS = 4


class Sheet:
    """A galley with the marks of its hands, each of which counts until it is let stand."""

    def __init__(self, galley, hands="ab"):
        check_galley(galley)
        check_hands(hands)
        self.galley = galley
        self.hands = hands
        self.marks = []
        self.makers = []
        self.counting = []

    def mark(self, mark, hand="a"):
        """The number of the mark that the hand makes here."""
        if not is_mark(mark) or not mark.fits(self.galley):
            raise BadMark("a mark on a sheet fits its galley")
        check_hand(hand, self.hands)
        self.marks.append(mark)
        self.makers.append(hand)
        self.counting.append(True)
        return len(self.marks) - 1

    def stand(self, number):
        """Let the text stand as it is without this mark."""
        check_number(number, len(self.marks))
        if not self.counting[number]:
            raise BadNumber("the mark is let stand already")
        self.counting[number] = False

    def again(self, number):
        """Let a mark count again that was let stand."""
        check_number(number, len(self.marks))
        if self.counting[number]:
            raise BadNumber("the mark counts already")
        self.counting[number] = True

    def living(self, hand=None):
        """The numbers of the marks that count, of the hand or of all, rising."""
        if hand is not None:
            check_hand(hand, self.hands)
        return [
            number
            for number, counts in enumerate(self.counting)
            if counts and (hand is None or self.makers[number] == hand)
        ]

    def quarrelling(self, hand=None):
        """The pairs of numbers of marks that count and quarrel, of the hand or of all."""
        numbers = self.living(hand)
        pairs = pairs_at_odds([self.marks[number] for number in numbers])
        return [(numbers[one], numbers[other]) for one, other in pairs]

    def clean(self, hand=None):
        """The text that the marks mend that count, of the hand or of all."""
        refuse_first(self.quarrelling(hand))
        return text_by(self.galley, [self.marks[number] for number in self.living(hand)])

    def made(self, number):
        """The hand that made the mark, what the mark tells, and whether it counts."""
        check_number(number, len(self.marks))
        return self.makers[number], self.marks[number].told(), self.counting[number]


def check_hands(value):
    """Refuse what is no text of 1 to 4 unlike signs of a to z."""
    if not isinstance(value, str) or not 1 <= len(value) <= MOST_HANDS:
        raise BadHands("the hands are a text of 1 to 4 signs")
    if not all([hand in LETTERS and value.count(hand) == 1 for hand in value]):
        raise BadHands("the hands are unlike signs of a to z")


def check_hand(value, hands):
    """Refuse what is none of the hands."""
    if not isinstance(value, str) or len(value) != 1 or value not in hands:
        raise BadHand("this is no hand of the sheet")


def check_number(value, many):
    """Refuse what is no number of one of so many marks."""
    if not is_number(value) or not 0 <= value < many:
        raise BadNumber("this is no number of a mark")
