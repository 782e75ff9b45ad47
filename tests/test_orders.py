"""Promises 6 and 7: marks told later, one by one, and what is refused there."""

import itertools
import unittest

from galleymarks import orders
from galleymarks.errors import BadGalley, BadMark, BadMarks, BadOrder, Quarrel
from galleymarks.marks import About, Carry, Mark, Put, Strike
from galleymarks.mending import mended
from galleymarks.orders import later, one_by_one
from galleymarks.quarrels import quarrels
from tests.helpers import NO_GALLEYS, NO_LISTS, NO_MARKS, NO_NUMBERS, Dice, done, every_mark, text_by_gaps, tolds

EIGHTY = "abcdefghijklmnopqrstuvwxyz .,\n" * 2 + "abcdefghijklmnopqrst"
KINDS = (Strike, Put, About, Carry)


class Orders(unittest.TestCase):
    def check_later(self, galley, marks, mark):
        """What is told later, which must do on the text what the mark does beside the marks."""
        told = later(galley, marks, mark)
        text = mended(galley, marks)
        self.check_step(told, mark, text, text_by_gaps(galley, [*marks, mark]))
        return told

    def check_step(self, told, mark, text, text_after):
        if told is None:
            self.assertEqual(text, text_after, mark.told())
            return
        self.assertEqual([isinstance(told, kind) for kind in KINDS], [isinstance(mark, kind) for kind in KINDS])
        self.assertLessEqual(max(number for number in told.told()[1:] if isinstance(number, int)), len(text))
        self.assertEqual(done(text, told), text_after, (mark.told(), told.told()))
        if len(text) <= 80:
            self.assertTrue(told.fits(text))
            self.assertEqual(mended(text, [told]), text_after)

    def check_order(self, galley, marks, order):
        told = one_by_one(galley, marks, order)
        self.assertIs(type(told), list)
        self.assertEqual(len(told), len(marks))
        text = galley
        for turn, mark in enumerate(told):
            ahead = [marks[count] for count in order[:turn + 1]]
            self.check_step(mark, ahead[-1], text, text_by_gaps(galley, ahead))
            text = done(text, mark)
        self.assertEqual(text, mended(galley, marks))


class TestLater(Orders):
    def check(self, galley, marks, mark, told):
        """What is told where no other mark makes the same text of these unlike signs."""
        with self.subTest(marks=tolds(marks), mark=mark.told()):
            self.assertEqual(tolds([self.check_later(galley, marks, mark)]), [told])

    def test_behind_none(self):
        for size in range(6):
            for mark in every_mark(size):
                told = self.check_later("bcdef"[:size], [], mark)
                self.assertIsNotNone(told)
                self.assertIsNot(told, mark)

    def test_a_put(self):
        self.check("abcdef", [Strike(0, 2)], Put(4, "xy"), ("put", 2, "xy"))
        self.check("abcdef", [Strike(2, 4)], Put(2, "x"), ("put", 2, "x"))
        self.check("abcdef", [Strike(2, 4)], Put(4, "x"), ("put", 2, "x"))
        self.check("abcdef", [Put(1, "xyz")], Put(4, "q"), ("put", 7, "q"))
        self.check("abcdef", [Put(1, "xyz")], Put(0, "q"), ("put", 0, "q"))
        self.check("abcdef", [About(0, 2, 6)], Put(1, "x"), ("put", 5, "x"))
        self.check("abcdef", [About(0, 2, 6)], Put(0, "x"), ("put", 0, "x"))
        self.check("abcdef", [About(0, 2, 6)], Put(6, "x"), ("put", 6, "x"))
        self.check("abcdef", [Carry(0, 3, 6)], Put(2, "x"), ("put", 5, "x"))
        self.check("abcdef", [Carry(0, 3, 6)], Put(3, "x"), ("put", 0, "x"))
        self.check("", [], Put(0, "x"), ("put", 0, "x"))

    def test_a_strike(self):
        self.check("abcdef", [Put(0, "xyz")], Strike(0, 2), ("strike", 3, 5))
        self.check("abcdef", [Put(2, "xyz")], Strike(0, 2), ("strike", 0, 2))
        self.check("abcdef", [Strike(0, 2), Strike(2, 3)], Strike(3, 6), ("strike", 0, 3))
        self.check("abcdef", [About(0, 3, 6)], Strike(0, 3), ("strike", 3, 6))
        self.check("abcdef", [About(0, 3, 6), Put(4, "x")], Strike(1, 2), ("strike", 5, 6))
        self.check("abcdef", [Carry(1, 4, 6)], Strike(2, 4), ("strike", 4, 6))
        self.check("abcdef", [Carry(4, 6, 0)], Strike(0, 4), ("strike", 2, 6))

    def test_an_about(self):
        self.check("abcdef", [Strike(0, 1)], About(2, 3, 5), ("about", 1, 2, 4))
        self.check("abcdef", [Put(1, "x"), Strike(3, 4)], About(0, 2, 6), ("about", 0, 3, 6))
        self.check("abcdef", [About(0, 2, 3)], About(0, 3, 5), ("about", 0, 3, 5))
        self.check("abcdef", [About(0, 3, 6)], About(0, 1, 3), ("about", 3, 4, 6))
        self.check("abcdef", [Carry(0, 4, 6)], About(1, 2, 3), ("about", 3, 4, 5))
        self.check("abcdef", [Carry(1, 2, 6)], About(0, 2, 4), ("about", 0, 1, 3))
        self.check("abcdef", [Put(1, "x")], About(0, 2, 4), ("about", 0, 3, 5))

    def test_a_carry(self):
        self.check("abcdef", [Strike(0, 1)], Carry(2, 4, 0), ("carry", 1, 3, 0))
        self.check("abcdef", [Put(6, "x")], Carry(0, 2, 5), ("carry", 0, 2, 5))
        self.check("abcdef", [Put(4, "x")], Carry(0, 2, 5), ("carry", 0, 2, 6))
        self.check("abcdef", [About(0, 3, 6)], Carry(0, 1, 6), ("carry", 3, 4, 6))
        self.check("abcdef", [About(0, 3, 6)], Carry(0, 1, 2), ("carry", 3, 4, 5))
        self.check("abcdef", [Carry(0, 2, 4)], Carry(4, 6, 2), ("carry", 4, 6, 0))
        self.check("abcdef", [Carry(0, 3, 6)], Carry(1, 2, 0), ("carry", 4, 5, 0))
        self.check("abcdef", [Carry(1, 2, 0), Strike(3, 4), Put(3, "xy")], Carry(1, 5, 6), ("carry", 2, 6, 7))

    def test_a_carry_that_crosses_its_gap_by_another_carry(self):
        self.check("abcdef", [Carry(0, 1, 3)], Carry(2, 3, 1), ("carry", 1, 2, 0))
        self.check("abcdef", [Carry(3, 4, 1)], Carry(1, 2, 4), ("carry", 2, 3, 4))

    def test_nothing_is_left_of_a_room(self):
        for marks in ([Strike(0, 2)], [Strike(2, 6)], [Carry(2, 6, 0)], [Strike(0, 2), Strike(2, 6)]):
            self.check("abcdef", marks, About(0, 2, 6), None)
        self.check("abcdef", [Strike(0, 3)], Carry(0, 4, 6), ("carry", 0, 1, 3))
        self.check("abcdef", [Strike(0, 2), Carry(2, 4, 6)], Carry(0, 4, 5), None)

    def test_a_room_whose_signs_are_struck_has_those_put_in_still(self):
        self.check("abcdef", [Strike(0, 1), Strike(1, 2), Put(1, "xy")], About(0, 2, 4), ("about", 0, 2, 4))
        self.check("abcdef", [Strike(3, 4), Put(4, "x"), Strike(4, 6)], Carry(3, 6, 1), ("carry", 3, 4, 1))

    def test_a_carry_of_which_nothing_moves(self):
        self.check("abcdef", [Strike(2, 4)], Carry(0, 2, 4), None)
        self.check("abcdef", [Strike(2, 4)], Carry(4, 6, 2), None)
        self.check("abcdef", [Carry(2, 4, 6)], Carry(0, 2, 4), None)

    def test_none_only_where_both_texts_are_the_same(self):
        for size in range(5):
            for galley in ("aaaa"[:size], "abab"[:size]):
                for one, other in itertools.permutations(every_mark(size), 2):
                    if not quarrels([one, other]):
                        self.check_later(galley, [one], other)


class TestLaterBehindAll(Orders):
    def test_every_two_marks(self):
        many = nones = 0
        for size in range(6):
            for one, other in itertools.product(every_mark(size), repeat=2):
                if not quarrels([one, other]):
                    nones += self.check_later("bcdef"[:size], [one], other) is None
                    many += 1
        self.assertGreater(many, 4000)
        self.assertGreater(many, 5 * nones)

    def test_every_three_marks(self):
        for size in range(4):
            for one, other in itertools.combinations(every_mark(size), 2):
                for mark in every_mark(size):
                    if not quarrels([one, other, mark]):
                        self.check_later("bcd"[:size], [one, other], mark)

    def test_behind_many(self):
        dice = Dice(11)
        for _ in range(40):
            size = 2 + dice.below(79)
            galley = "".join(dice.shuffled(EIGHTY)[:size])
            *marks, mark = dice.peaceful(size, 31, 80)
            self.check_later(galley, marks, mark)
            self.check_later(galley, dice.shuffled(marks), mark)

    def test_behind_thirty_on_texts_beyond_eighty_signs(self):
        puts = [Put(gap, "zyxzyxzyxzyxzyxzyxzy") for gap in range(1, 31)]
        for mark, told in (
            (Put(80, "x"), ("put", 680, "x")),
            (Strike(40, 80), ("strike", 640, 680)),
            (Strike(29, 30), ("strike", 609, 610)),
            (About(0, 31, 80), ("about", 0, 631, 680)),
            (About(30, 31, 32), ("about", 630, 631, 632)),
            (Carry(0, 40, 80), ("carry", 0, 640, 680)),
            (Carry(79, 80, 0), ("carry", 679, 680, 0)),
        ):
            self.assertEqual(self.check_later(EIGHTY, puts, mark).told(), told)


class TestOneByOne(Orders):
    def test_no_marks(self):
        self.assertEqual(one_by_one("", [], []), [])
        self.assertEqual(one_by_one(EIGHTY, [], []), [])

    def test_told(self):
        marks = [Strike(0, 2), Put(3, "xy"), Carry(4, 6, 1)]
        self.assertRaises(Quarrel, one_by_one, "abcdef", marks, [0, 1, 2])
        marks = [Strike(0, 2), Put(3, "xy"), Carry(4, 6, 2)]
        told = one_by_one("abcdef", marks, [0, 1, 2])
        self.assertEqual(tolds(told), [("strike", 0, 2), ("put", 1, "xy"), ("carry", 4, 6, 0)])
        told = one_by_one("abcdef", marks, [2, 1, 0])
        self.assertEqual(tolds(told), [("carry", 4, 6, 2), ("put", 5, "xy"), ("strike", 0, 2)])
        told = one_by_one("abcdef", [Strike(0, 1), About(0, 1, 2)], [0, 1])
        self.assertEqual(tolds(told), [("strike", 0, 1), None])
        told = one_by_one("abcdef", [Strike(0, 1), About(0, 1, 2)], [1, 0])
        self.assertEqual(tolds(told), [("about", 0, 1, 2), ("strike", 1, 2)])

    def test_all_orders_of_few_marks(self):
        for galley, marks in (
            ("", [Put(0, "x")]),
            ("abcdef", [Carry(0, 2, 4), Carry(4, 6, 2), Put(5, "x"), Strike(1, 2)]),
            ("abcdef", [About(0, 4, 6), About(0, 3, 4), Carry(0, 3, 6), About(0, 1, 2), Strike(0, 1)]),
            ("abcdef", [About(0, 3, 6), Strike(0, 3), Carry(3, 5, 0), Put(4, "xy")]),
            ("abcdef", [Carry(1, 4, 6), Carry(1, 2, 4), Carry(4, 6, 1), Put(5, "xy"), Put(0, "z")]),
            ("abab, ab.\n", [Carry(1, 9, 10), About(1, 5, 8), Strike(2, 4), Put(6, "ab")]),
        ):
            for order in itertools.permutations(range(len(marks))):
                with self.subTest(galley=galley, order=order):
                    self.check_order(galley, marks, list(order))

    def test_every_three_marks_in_all_orders(self):
        for size in range(4):
            for trio in itertools.combinations(every_mark(size), 3):
                if not quarrels(list(trio)):
                    for order in itertools.permutations(range(3)):
                        self.check_order("bcd"[:size], list(trio), list(order))

    def test_many_marks(self):
        dice = Dice(17)
        for _ in range(25):
            size = 2 + dice.below(79)
            galley = "".join(dice.shuffled(EIGHTY)[:size])
            marks = dice.peaceful(size, 30, 80)
            for _ in range(2):
                self.check_order(galley, marks, dice.shuffled(range(len(marks))))

    def test_thirty_marks_on_texts_beyond_eighty_signs(self):
        marks = [Put(gap, "zyxzyxzyxzyxzyxzyxzy") for gap in range(25)]
        marks += [About(0, 30, 80), Strike(40, 50), Carry(25, 29, 80), Strike(26, 29), Put(79, "x")]
        self.assertEqual(len(marks), 30)
        for order in (list(range(30)), list(range(29, -1, -1)), Dice(3).shuffled(range(30))):
            self.check_order(EIGHTY, marks, order)


class TestWhatIsTold(unittest.TestCase):
    def test_it_is_new_and_what_is_handed_in_stays(self):
        marks, order = [Put(0, "x"), Strike(0, 1)], [1, 0]
        kept = list(marks)
        told = one_by_one("ab", marks, order)
        later("ab", marks, Put(2, "y"))
        told.clear()
        self.assertEqual(tolds(one_by_one("ab", marks, order)), [("strike", 0, 1), ("put", 0, "x")])
        self.assertEqual((marks, order), (kept, [1, 0]))
        self.assertEqual(tolds(marks), [("put", 0, "x"), ("strike", 0, 1)])

    def test_names(self):
        mark = Strike(0, 1)
        self.assertEqual(later(mark=mark, marks=[Put(0, "x")], galley="ab").told(), ("strike", 1, 2))
        self.assertEqual(tolds(one_by_one(order=[0], marks=[mark], galley="ab")), [("strike", 0, 1)])

    def test_they_are_defined_where_the_interface_lists_them(self):
        for name in ("later", "one_by_one"):
            self.assertEqual(getattr(orders, name).__module__, "galleymarks.orders")


class Refusals(unittest.TestCase):
    def refused(self, kind, asked, *handed):
        with self.subTest(handed=[each.__class__.__name__ for each in handed]):
            with self.assertRaises(kind) as caught:
                asked(*handed)
            self.assertIs(type(caught.exception), kind)
            return caught.exception


class TestLaterRefusals(Refusals):
    def test_no_galley(self):
        for wrong in NO_GALLEYS:
            self.refused(BadGalley, later, wrong, [], Put(0, "a"))

    def test_no_marks(self):
        for wrong in (*NO_LISTS, *[[wrong] for wrong in NO_MARKS], [Mark()], [Strike(0, 3)], [Put(0, "a"), Put(3, "a")]):
            self.refused(BadMarks, later, "ab", wrong, Put(0, "b"))
        self.refused(BadMarks, later, EIGHTY, [Put(gap, "a") for gap in range(31)], Put(40, "a"))

    def test_no_mark(self):
        for wrong in (*NO_MARKS, Mark(), Strike(0, 3), Put(3, "a"), About(0, 1, 3), Carry(0, 1, 3), Carry(2, 3, 0)):
            self.refused(BadMark, later, "ab", [], wrong)
            self.refused(BadMark, later, "ab", [Put(0, "a")], wrong)

    def test_a_mark_that_would_fit_the_mended_text_alone(self):
        self.refused(BadMark, later, "ab", [Put(0, "xyz")], Strike(2, 4))

    def test_quarrels(self):
        why = self.refused(Quarrel, later, "abcd", [Put(0, "x"), Put(1, "x"), Strike(2, 3)], Put(1, "y"))
        self.assertEqual((why.one, why.other), (1, 3))
        why = self.refused(Quarrel, later, "abcd", [Put(0, "x"), Put(1, "x"), Put(1, "y")], Put(1, "z"))
        self.assertEqual((why.one, why.other), (1, 2))
        why = self.refused(Quarrel, later, "abcd", [Put(0, "x"), Put(1, "x"), Put(1, "y")], Put(0, "z"))
        self.assertEqual((why.one, why.other), (0, 3))
        why = self.refused(Quarrel, later, EIGHTY, [Put(gap, "a") for gap in range(30)], Put(29, "b"))
        self.assertEqual((why.one, why.other), (29, 30))

    def test_what_is_told_first(self):
        self.refused(BadGalley, later, "A", None, None)
        self.refused(BadGalley, later, None, [Put(0, "a"), Put(0, "b")], Put(0, "a"))
        self.refused(BadMarks, later, "ab", None, None)
        self.refused(BadMarks, later, "ab", [Strike(0, 3)], Strike(0, 3))
        self.refused(BadMarks, later, "ab", [Put(0, "a")] * 31, Put(0, "a"))
        self.refused(BadMark, later, "ab", [Put(0, "a"), Put(0, "b")], None)
        self.refused(BadMark, later, "ab", [Put(0, "a"), Put(0, "b")], Strike(1, 3))


class TestOneByOneRefusals(Refusals):
    def test_no_galley(self):
        for wrong in NO_GALLEYS:
            self.refused(BadGalley, one_by_one, wrong, [], [])

    def test_no_marks(self):
        for wrong in (*NO_LISTS, *[[wrong] for wrong in NO_MARKS], [Mark()], [Strike(0, 3)], [Put(3, "a")]):
            self.refused(BadMarks, one_by_one, "ab", wrong, [0])
        self.refused(BadMarks, one_by_one, EIGHTY, [Put(gap, "a") for gap in range(31)], list(range(31)))

    def test_quarrels(self):
        why = self.refused(Quarrel, one_by_one, "ab", [Put(0, "x"), Put(1, "x"), Put(1, "y")], [2, 1, 0])
        self.assertEqual((why.one, why.other), (1, 2))

    def test_no_order(self):
        marks = [Put(0, "x"), Put(1, "y"), Put(2, "z")]
        for wrong in (*NO_LISTS, (0, 1, 2), range(3), {0: 0, 1: 1, 2: 2}, {0, 1, 2}, "012", None):
            self.refused(BadOrder, one_by_one, "ab", marks, wrong)
        for wrong in NO_NUMBERS:
            self.refused(BadOrder, one_by_one, "ab", marks, [0, wrong, 2])
            self.refused(BadOrder, one_by_one, "ab", marks, [wrong, 1, 2])
        for wrong in (
            [], [0], [0, 1], [1, 2], [0, 2], [0, 0, 1], [0, 1, 1], [0, 1, 2, 2], [0, 1, 2, 0], [0, 1, 3],
            [1, 2, 3], [0, 1, -1], [-1, -2, -3], [0, 1, 10 ** 5000], [0, 1, 2, 3], [False, True, 2], [[0, 1, 2]],
        ):
            self.refused(BadOrder, one_by_one, "ab", marks, wrong)
        self.refused(BadOrder, one_by_one, "ab", [], [0])
        self.refused(BadOrder, one_by_one, "ab", [], None)
        self.refused(BadOrder, one_by_one, "ab", [Put(0, "x")], [False])
        self.refused(BadOrder, one_by_one, "ab", marks[:2], [False, True])

    def test_what_is_told_first(self):
        self.refused(BadGalley, one_by_one, 1, None, None)
        self.refused(BadMarks, one_by_one, "ab", None, None)
        self.refused(BadMarks, one_by_one, "ab", [Put(0, "a"), Put(0, "b"), None], [0])
        self.refused(Quarrel, one_by_one, "ab", [Put(0, "a"), Put(0, "b")], None)
        self.refused(Quarrel, one_by_one, "ab", [Put(0, "a"), Put(0, "b")], [0, 0])


if __name__ == "__main__":
    unittest.main()
