"""Promise 8: sheets of several hands, marks let stand, and what is refused there."""

import unittest

from galleymarks import sheets
from galleymarks.errors import BadGalley, BadHand, BadHands, BadMark, BadNumber, Quarrel
from galleymarks.marks import About, Carry, Mark, Put, Strike
from galleymarks.mending import mended
from galleymarks.quarrels import quarrels
from galleymarks.sheets import Sheet
from tests.helpers import NO_GALLEYS, NO_MARKS, NO_NUMBERS, Dice, text_by_gaps

EIGHTY = "abcdefghijklmnopqrstuvwxyz .,\n" * 2 + "abcdefghijklmnopqrst"
NO_HANDS = (
    None, True, 0, 1, b"a", b"ab", [], ["a"], ("a", "b"), {}, {"a"}, object(), str,
    "", "abcde", "aa", "aba", "abca", "A", "aB", "a b", " ", ".", "a,", "\n", "0", "\u00e4", "\ud800",
)
NO_HAND = (True, 0, 1, b"a", [], ["a"], ("a",), {}, {"a"}, object(), str, "", "c", "ab", "ba", "A", " ", "\u00e4")


def state(sheet):
    """All that a sheet tells, of hands a and b."""
    told = [asked(hand) for asked in (sheet.living, sheet.quarrelling) for hand in (None, "a", "b")]
    told += [None if sheet.quarrelling(hand) else sheet.clean(hand) for hand in (None, "a", "b")]
    return told, all_made(sheet)


def all_made(sheet):
    """What is told of each mark made on the sheet."""
    told = []
    while True:
        try:
            told.append(sheet.made(len(told)))
        except BadNumber:
            return told


class TestMarks(unittest.TestCase):
    def test_a_new_sheet(self):
        for galley in ("", "ab, c.\n", EIGHTY):
            for sheet in (Sheet(galley), Sheet(galley, "ab"), Sheet(galley, "qxyz")):
                self.assertEqual((sheet.living(), sheet.quarrelling(), sheet.clean()), ([], [], galley))
        self.assertEqual(Sheet("ab", "z").clean("z"), "ab")

    def test_hands_of_one_to_four_signs(self):
        for hands in ("a", "z", "zy", "aqz", "dcba", "wxyz"):
            sheet = Sheet("abcd", hands)
            for number, hand in enumerate(hands):
                self.assertEqual(sheet.mark(Put(number, hand), hand), number)
                self.assertEqual(sheet.living(hand), [number])
                self.assertEqual(sheet.made(number), (hand, ("put", number, hand), True))

    def test_numbers_in_the_turn_of_making(self):
        sheet = Sheet("abcdef")
        self.assertEqual(sheet.mark(Put(0, "x")), 0)
        self.assertEqual(sheet.mark(Put(1, "x"), "b"), 1)
        self.assertEqual(sheet.mark(Put(2, "x"), "a"), 2)
        self.assertEqual(sheet.mark(Put(0, "y"), "b"), 3)
        sheet.stand(3)
        self.assertEqual(sheet.mark(Put(0, "z"), "b"), 4)

    def test_the_hand_where_none_is_handed_in(self):
        sheet = Sheet("ab")
        sheet.mark(Put(0, "x"))
        self.assertEqual(sheet.made(0)[0], "a")
        sheet = Sheet("ab", "xy")
        self.assertRaises(BadHand, sheet.mark, Put(0, "x"))
        self.assertEqual(sheet.mark(Put(0, "x"), "y"), 0)

    def test_made(self):
        sheet = Sheet("abcdef")
        for hand, mark in zip("abba", (Strike(0, 2), Put(6, "x\n"), About(0, 1, 3), Carry(4, 5, 0))):
            number = sheet.mark(mark, hand)
            self.assertEqual(sheet.made(number), (hand, mark.told(), True))
            sheet.stand(number)
            self.assertEqual(sheet.made(number), (hand, mark.told(), False))
            self.assertIs(type(sheet.made(number)), tuple)
            self.assertIs(sheet.made(number)[2], False)
        self.assertEqual(sheet.made(0), ("a", ("strike", 0, 2), False))

    def test_the_same_mark_made_twice_has_two_numbers(self):
        sheet, mark = Sheet("ab"), Put(0, "x")
        self.assertEqual([sheet.mark(mark), sheet.mark(mark, "b")], [0, 1])
        self.assertEqual(sheet.quarrelling(), [(0, 1)])
        sheet.stand(0)
        self.assertEqual((sheet.made(0)[2], sheet.made(1)[2]), (False, True))


class TestLivingAndQuarrelling(unittest.TestCase):
    def setUp(self):
        self.sheet = Sheet("abcdef")
        for hand, mark in zip("abaab", (Put(0, "x"), Put(0, "y"), Strike(1, 4), Put(2, "z"), Carry(1, 4, 0))):
            self.sheet.mark(mark, hand)

    def check(self, asked, told, of_a, of_b):
        for handed, expected in ((), told), ((None,), told), (("a",), of_a), (("b",), of_b):
            with self.subTest(asked=asked.__name__, handed=handed):
                self.assertEqual(asked(*handed), expected)
                self.assertIs(type(asked(*handed)), list)

    def test_all_count(self):
        self.check(self.sheet.living, [0, 1, 2, 3, 4], [0, 2, 3], [1, 4])
        pairs = [(0, 1), (0, 4), (1, 4), (2, 3), (2, 4)]
        self.check(self.sheet.quarrelling, pairs, [(2, 3)], [(1, 4)])

    def test_stand_and_again_by_turns(self):
        self.assertIsNone(self.sheet.stand(2))
        self.check(self.sheet.living, [0, 1, 3, 4], [0, 3], [1, 4])
        self.check(self.sheet.quarrelling, [(0, 1), (0, 4), (1, 4)], [], [(1, 4)])
        self.sheet.stand(4)
        self.check(self.sheet.living, [0, 1, 3], [0, 3], [1])
        self.check(self.sheet.quarrelling, [(0, 1)], [], [])
        self.assertIsNone(self.sheet.again(2))
        self.check(self.sheet.living, [0, 1, 2, 3], [0, 2, 3], [1])
        self.check(self.sheet.quarrelling, [(0, 1), (2, 3)], [(2, 3)], [])
        self.sheet.stand(2)
        self.sheet.stand(0)
        self.check(self.sheet.living, [1, 3], [3], [1])
        self.check(self.sheet.quarrelling, [], [], [])
        self.sheet.again(4)
        self.sheet.again(0)
        self.sheet.again(2)
        self.check(self.sheet.living, [0, 1, 2, 3, 4], [0, 2, 3], [1, 4])

    def test_none_counts(self):
        for number in range(5):
            self.sheet.stand(number)
        self.check(self.sheet.living, [], [], [])
        self.check(self.sheet.quarrelling, [], [], [])
        self.check_clean("abcdef", "abcdef", "abcdef")

    def check_clean(self, told, of_a, of_b):
        for handed, expected in ((), told), ((None,), told), (("a",), of_a), (("b",), of_b):
            with self.subTest(handed=handed):
                self.assertEqual(self.sheet.clean(*handed), expected)

    def test_clean(self):
        self.sheet.stand(2)
        self.sheet.stand(1)
        self.sheet.stand(0)
        self.check_clean("bzcdaef", "abzcdef", "bcdaef")
        self.sheet.stand(4)
        self.check_clean("abzcdef", "abzcdef", "abcdef")
        self.sheet.again(1)
        self.check_clean("yabzcdef", "abzcdef", "yabcdef")

    def test_clean_where_marks_quarrel(self):
        for handed, one, other in ((), 0, 1), ((None,), 0, 1), (("a",), 2, 3), (("b",), 1, 4):
            with self.assertRaises(Quarrel) as caught:
                self.sheet.clean(*handed)
            self.assertIs(type(caught.exception), Quarrel)
            self.assertEqual((caught.exception.one, caught.exception.other), (one, other))
        self.sheet.stand(0)
        with self.assertRaises(Quarrel) as caught:
            self.sheet.clean()
        self.assertEqual((caught.exception.one, caught.exception.other), (1, 4))
        self.sheet.stand(4)
        with self.assertRaises(Quarrel) as caught:
            self.sheet.clean()
        self.assertEqual((caught.exception.one, caught.exception.other), (2, 3))
        self.assertEqual(self.sheet.clean("b"), "yabcdef")


class TestMany(unittest.TestCase):
    def test_more_than_thirty_marks(self):
        sheet = Sheet(EIGHTY)
        marks = [Put(gap, "xy") for gap in range(81)]
        for number, mark in enumerate(marks):
            self.assertEqual(sheet.mark(mark, "ab"[number & 1]), number)
        self.assertEqual(sheet.living(), list(range(81)))
        self.assertEqual(sheet.living("b"), list(range(1, 81, 2)))
        self.assertEqual(sheet.quarrelling(), [])
        self.assertEqual(sheet.clean(), "xy" + "".join(sign + "xy" for sign in EIGHTY))
        self.assertEqual(sheet.clean("a"), text_by_gaps(EIGHTY, marks[::2]))
        sheet.mark(Put(33, "z"))
        self.assertEqual(sheet.quarrelling(), [(33, 81)])
        with self.assertRaises(Quarrel) as caught:
            sheet.clean()
        self.assertEqual((caught.exception.one, caught.exception.other), (33, 81))
        sheet.stand(33)
        self.assertEqual(sheet.clean(), text_by_gaps(EIGHTY, marks[:33] + marks[34:] + [Put(33, "z")]))

    def test_seventy_nine_marks_within_one_another(self):
        sheet = Sheet(EIGHTY)
        for begin in range(79):
            sheet.mark(About(begin, begin + 1, 80))
        self.assertEqual(sheet.clean(), EIGHTY[::-1])

    def test_as_if_no_others_had_been_made(self):
        dice = Dice(23)
        for _ in range(30):
            size = 2 + dice.below(30)
            galley = "".join(dice.shuffled(EIGHTY)[:size])
            sheet, made = Sheet(galley), []
            for _ in range(15):
                hand, mark = "ab"[dice.below(2)], dice.mark(size)
                made.append([hand, mark, True])
                sheet.mark(mark, hand)
                number = dice.below(len(made))
                (sheet.stand if made[number][2] else sheet.again)(number)
                made[number][2] = not made[number][2]
                self.check(sheet, galley, made)

    def check(self, sheet, galley, made):
        for asked in (None, "a", "b"):
            numbers = [at for at, (hand, _, counts) in enumerate(made) if counts and asked in (None, hand)]
            marks = [made[number][1] for number in numbers]
            pairs = [(numbers[one], numbers[other]) for one, other in quarrels(marks)]
            self.assertEqual(sheet.living(asked), numbers)
            self.assertEqual(sheet.quarrelling(asked), pairs)
            if pairs:
                self.assertRaises(Quarrel, sheet.clean, asked)
            else:
                self.assertEqual(sheet.clean(asked), mended(galley, marks))
        for number, (hand, mark, counts) in enumerate(made):
            self.assertEqual(sheet.made(number), (hand, mark.told(), counts))

    def test_two_sheets_beside_one_another(self):
        one, other = Sheet("abc"), Sheet("abc")
        one.mark(Strike(0, 1))
        self.assertEqual((other.living(), other.clean()), ([], "abc"))
        self.assertRaises(BadNumber, other.made, 0)
        self.assertEqual(other.mark(Put(3, "x"), "b"), 0)
        one.stand(0)
        self.assertEqual((one.clean(), other.clean()), ("abc", "abcx"))
        self.assertEqual((one.living(), other.living()), ([], [0]))
        self.assertEqual((one.made(0)[0], other.made(0)[0]), ("a", "b"))


class TestWhatIsTold(unittest.TestCase):
    def test_it_is_new_each_time(self):
        sheet = Sheet("ab")
        sheet.mark(Put(0, "x"))
        sheet.mark(Put(0, "y"))
        for asked in (sheet.living, sheet.quarrelling):
            for handed in ((), (None,), ("a",)):
                told = asked(*handed)
                told.clear()
                self.assertEqual(len(asked(*handed)), 2 if asked == sheet.living else 1)
        self.assertEqual(sheet.quarrelling(), [(0, 1)])
        self.assertIs(type(sheet.quarrelling()[0]), tuple)

    def test_names(self):
        sheet = Sheet(hands="xy", galley="ab")
        self.assertEqual(sheet.mark(hand="y", mark=Put(0, "q")), 0)
        self.assertIsNone(sheet.stand(number=0))
        self.assertIsNone(sheet.again(number=0))
        self.assertEqual((sheet.living(hand="y"), sheet.quarrelling(hand="y")), ([0], []))
        self.assertEqual((sheet.clean(hand="x"), sheet.clean(hand="y")), ("ab", "qab"))
        self.assertEqual(sheet.made(number=0), ("y", ("put", 0, "q"), True))

    def test_the_class_and_its_methods_stand_where_the_interface_lists_them(self):
        self.assertEqual(sheets.Sheet.__module__, "galleymarks.sheets")
        for name in ("mark", "stand", "again", "living", "quarrelling", "clean", "made"):
            self.assertIn(name, vars(Sheet))


class TestRefusals(unittest.TestCase):
    def setUp(self):
        self.sheet = Sheet("ab")
        self.sheet.mark(Put(0, "x"))
        self.sheet.mark(Put(0, "y"), "b")
        self.sheet.mark(Strike(0, 1), "b")
        self.sheet.stand(1)

    def refused(self, kind, asked, *handed):
        """That it is refused so, and nothing is changed by it."""
        before = state(self.sheet)
        with self.subTest(handed=[each.__class__.__name__ for each in handed]):
            with self.assertRaises(kind) as caught:
                asked(*handed)
            self.assertIs(type(caught.exception), kind)
        self.assertEqual(state(self.sheet), before)
        self.assertEqual(len(before[1]), 3)

    def test_no_galley(self):
        for wrong in NO_GALLEYS:
            self.refused(BadGalley, Sheet, wrong)
            self.refused(BadGalley, Sheet, wrong, "ab")

    def test_no_hands(self):
        for wrong in NO_HANDS:
            self.refused(BadHands, Sheet, "ab", wrong)

    def test_no_mark(self):
        for wrong in (*NO_MARKS, Mark(), Strike(0, 3), Put(3, "a"), About(0, 1, 3), Carry(0, 1, 3), Carry(2, 3, 0)):
            self.refused(BadMark, self.sheet.mark, wrong)
            self.refused(BadMark, self.sheet.mark, wrong, "b")

    def test_no_hand(self):
        for wrong in NO_HAND:
            self.refused(BadHand, self.sheet.mark, Put(1, "a"), wrong)
            for asked in (self.sheet.living, self.sheet.quarrelling, self.sheet.clean):
                self.refused(BadHand, asked, wrong)
        self.refused(BadHand, self.sheet.mark, Put(1, "a"), None)

    def test_no_number(self):
        for wrong in (*NO_NUMBERS, 3, 4, 10 ** 5000):
            for asked in (self.sheet.stand, self.sheet.again, self.sheet.made):
                self.refused(BadNumber, asked, wrong)
        self.refused(BadNumber, self.sheet.stand, 1)
        self.refused(BadNumber, self.sheet.again, 0)
        self.refused(BadNumber, self.sheet.again, 2)
        for asked in (Sheet("ab").stand, Sheet("ab").again, Sheet("ab").made):
            self.refused(BadNumber, asked, 0)

    def test_quarrels(self):
        self.sheet.again(1)
        self.refused(Quarrel, self.sheet.clean)
        self.refused(Quarrel, self.sheet.clean, None)
        self.assertEqual(self.sheet.clean("b"), "yb")

    def test_what_is_told_first(self):
        self.refused(BadGalley, Sheet, None, None)
        self.refused(BadGalley, Sheet, "A", "aa")
        self.refused(BadMark, self.sheet.mark, None, "c")
        self.refused(BadMark, self.sheet.mark, Strike(0, 3), None)
        self.sheet.again(1)
        for wrong in ("c", "", True):
            self.refused(BadHand, self.sheet.clean, wrong)


if __name__ == "__main__":
    unittest.main()
