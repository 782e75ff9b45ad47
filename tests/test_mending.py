"""Promises 4 and 5: the mended text and its origins, and what is refused there."""

import itertools
import unittest

from galleymarks import mending
from galleymarks.errors import BadGalley, BadMarks, Quarrel
from galleymarks.marks import About, Carry, Mark, Put, Strike
from galleymarks.mending import mended, origins
from galleymarks.quarrels import quarrels
from tests.helpers import NO_GALLEYS, NO_LISTS, NO_MARKS, Dice, by_gaps, done, every_mark, tolds

EIGHTY = "abcdefghijklmnopqrstuvwxyz .,\n" * 2 + "abcdefghijklmnopqrst"


def sign_at(origin, galley, marks):
    """The sign of an origin, of whichever kind."""
    if isinstance(origin, tuple):
        return marks[origin[0]].told()[2][origin[1]]
    return galley[origin]


class Mending(unittest.TestCase):
    def check(self, galley, marks, text):
        """That the marks mend this text, in whichever turn, and that the origins are those of its signs."""
        for turn in (marks, marks[::-1], marks[1:] + marks[:1]):
            with self.subTest(galley=galley, marks=tolds(turn)):
                self.assertEqual(mended(galley, turn), text)
                self.check_origins(galley, turn, text)

    def check_origins(self, galley, marks, text):
        told = origins(galley, marks)
        self.assertEqual("".join(sign_at(origin, galley, marks) for origin in told), text)
        self.assertEqual(told, by_gaps(len(galley), marks))
        struck = [mark.span() for mark in marks if isinstance(mark, Strike)]
        left = [at for at in range(len(galley)) if not any(begin <= at < end for begin, end in struck)]
        self.assertEqual(sorted(origin for origin in told if not isinstance(origin, tuple)), left)
        put = [(at, k) for at, mark in enumerate(marks) if isinstance(mark, Put) for k in range(len(mark.text))]
        self.assertEqual(sorted(origin for origin in told if isinstance(origin, tuple)), put)


class TestByThemselves(Mending):
    def test_no_marks(self):
        for galley in ("", "a", "ab\n, .", EIGHTY):
            self.check(galley, [], galley)
            self.assertEqual(origins(galley, []), list(range(len(galley))))

    def test_a_strike(self):
        self.check("abcdef", [Strike(0, 2)], "cdef")
        self.check("abcdef", [Strike(2, 5)], "abf")
        self.check("abcdef", [Strike(4, 6)], "abcd")
        self.check("abcdef", [Strike(0, 6)], "")
        self.check("a", [Strike(0, 1)], "")
        self.check(EIGHTY, [Strike(0, 80)], "")
        self.assertEqual(origins("abcdef", [Strike(2, 5)]), [0, 1, 5])

    def test_a_put(self):
        self.check("", [Put(0, "xyz")], "xyz")
        self.check("abc", [Put(0, "x\n")], "x\nabc")
        self.check("abc", [Put(2, ", ")], "ab, c")
        self.check("abc", [Put(3, "x" * 20)], "abc" + "x" * 20)
        self.check(EIGHTY, [Put(80, ".")], EIGHTY + ".")
        self.assertEqual(origins("abc", [Put(2, "xyz")]), [0, 1, (0, 0), (0, 1), (0, 2), 2])

    def test_an_about(self):
        self.check("abcdef", [About(0, 1, 3)], "bcadef")
        self.check("abcdef", [About(1, 3, 4)], "adbcef")
        self.check("abcdef", [About(3, 4, 6)], "abcefd")
        self.check("abcdef", [About(0, 2, 6)], "cdefab")
        self.check("ab", [About(0, 1, 2)], "ba")
        self.check(EIGHTY, [About(0, 79, 80)], EIGHTY[79] + EIGHTY[:79])
        self.assertEqual(origins("abcdef", [About(1, 3, 4)]), [0, 3, 1, 2, 4, 5])

    def test_a_carry(self):
        self.check("abcdef", [Carry(0, 2, 4)], "cdabef")
        self.check("abcdef", [Carry(0, 2, 6)], "cdefab")
        self.check("abcdef", [Carry(2, 4, 0)], "cdabef")
        self.check("abcdef", [Carry(2, 4, 1)], "acdbef")
        self.check("abcdef", [Carry(2, 4, 5)], "abecdf")
        self.check("abcdef", [Carry(4, 6, 3)], "abcefd")
        self.check("ab", [Carry(1, 2, 0)], "ba")
        self.check(EIGHTY, [Carry(0, 1, 80)], EIGHTY[1:] + EIGHTY[0])
        self.assertEqual(origins("abcdef", [Carry(2, 4, 0)]), [2, 3, 0, 1, 4, 5])

    def test_every_mark_does_what_it_does_on_a_text(self):
        for size in range(6):
            galley = "bcdef"[:size]
            for mark in every_mark(size):
                self.check(galley, [mark], done(galley, mark))


class TestBesideOneAnother(Mending):
    def test_spans_side_by_side(self):
        self.check("abcdef", [Strike(0, 2), Strike(2, 4), Strike(4, 6)], "")
        self.check("abcdef", [About(0, 1, 3), About(3, 4, 6)], "bcaefd")
        self.check("abcdef", [Carry(0, 2, 6), Carry(2, 4, 0)], "cdefab")
        self.check("abcdef", [Strike(0, 1), About(1, 2, 3), Carry(3, 4, 6)], "cbefd")

    def test_spots_where_spans_begin_and_end(self):
        for mark, middle in (Strike(2, 4), ""), (About(2, 3, 4), "dc"), (Carry(2, 4, 0), ""):
            ahead = "cd" if isinstance(mark, Carry) else ""
            self.check("abcdef", [mark, Put(2, "x"), Put(4, "y")], f"{ahead}abx{middle}yef")
            self.check("abcdef", [mark, Carry(5, 6, 2), Put(4, "y")], f"{ahead}abf{middle}ye")
            self.check("abcdef", [mark, Carry(4, 5, 2), Carry(1, 2, 4)], f"{ahead}ae{middle}bf")

    def test_a_spot_where_one_span_ends_and_another_begins(self):
        self.check("abcdef", [About(0, 1, 3), About(3, 4, 6), Put(3, "x")], "bcaxefd")
        self.check("abcdef", [Strike(0, 3), Strike(3, 6), Put(3, "x")], "x")
        self.check("abcdef", [Strike(1, 3), Strike(3, 5), Carry(5, 6, 3)], "af")
        self.check("abcdef", [Carry(0, 3, 6), Carry(3, 6, 0), Put(3, "x")], "defxabc")

    def test_puts_about_a_strike_of_all(self):
        self.check("abc", [Strike(0, 3), Put(0, "x"), Put(3, "y")], "xy")

    def test_carries_to_where_others_were_taken_from(self):
        self.check("abcdef", [Carry(0, 1, 2), Carry(2, 3, 1)], "cbadef")
        self.check("abcdef", [Carry(0, 2, 4), Carry(4, 6, 2)], "efcdab")
        self.check("abcd", [Carry(0, 1, 4), Carry(3, 4, 0)], "dbca")


class TestWithin(Mending):
    def test_marks_within_an_abouts_rooms(self):
        self.check("abcdef", [About(0, 3, 6), Strike(1, 2), Put(4, "x")], "dxefac")
        self.check("abcdef", [About(0, 3, 6), Strike(0, 3)], "def")
        self.check("abcdef", [About(0, 3, 6), Strike(3, 6)], "abc")
        self.check("abcdef", [About(0, 3, 6), Strike(0, 3), Strike(3, 6)], "")
        self.check("abcdef", [About(0, 3, 6), About(0, 1, 3), About(3, 5, 6)], "fdebca")

    def test_nothing_of_a_room_comes_at_its_edges(self):
        self.check("abcdef", [About(1, 3, 5), Put(1, "x"), Put(5, "y")], "axdebcyf")
        self.check("abcdef", [Carry(1, 3, 5), Put(1, "x"), Put(3, "y")], "axydebcf")
        self.check("abcdef", [Carry(1, 3, 5), Carry(0, 1, 3), Carry(4, 5, 1)], "eadbcf")

    def test_marks_within_a_carrys_room(self):
        self.check("abcdef", [Carry(0, 4, 6), Strike(1, 2), Put(3, "x")], "efacxd")
        self.check("abcdef", [Carry(2, 6, 0), About(3, 4, 6), Strike(2, 3)], "efdab")
        self.check("abcdef", [Carry(2, 5, 1), Strike(2, 4), Strike(4, 5)], "abf")

    def test_carries_out_of_rooms(self):
        self.check("abcdef", [About(0, 3, 6), Carry(1, 2, 6)], "defacb")
        self.check("abcdef", [About(0, 3, 6), Carry(0, 3, 6)], "defabc")
        self.check("abcdef", [About(1, 3, 5), Carry(3, 5, 0)], "deabcf")
        self.check("abcdef", [Carry(1, 4, 6), Carry(2, 3, 0)], "caefbd")
        self.check("abcdef", [Carry(1, 4, 6), Carry(1, 2, 4)], "abefcd")

    def test_carries_within_rooms(self):
        self.check("abcdef", [About(0, 4, 6), Carry(0, 1, 3)], "efbcad")
        self.check("abcdef", [About(0, 2, 6), Carry(5, 6, 3)], "cfdeab")
        self.check("abcdef", [Carry(0, 4, 6), Carry(0, 1, 3)], "efbcad")
        self.check("abcdef", [Carry(2, 6, 1), Carry(4, 6, 3)], "acefdb")

    def test_a_carry_in_whose_room_others_lie_to_a_gap_of_a_room(self):
        self.check("abcdefgh", [About(0, 6, 8), Carry(0, 3, 5), About(1, 2, 3)], "ghdeacbf")
        self.check("abcdefgh", [Carry(1, 8, 0), Carry(1, 4, 6), Put(2, "x"), Strike(3, 4)], "efbxcgha")

    def test_spans_that_begin_at_the_same_gap(self):
        marks = [About(0, 4, 6), About(0, 3, 4), Carry(0, 3, 6), About(0, 1, 2), Strike(0, 1)]
        for turn in itertools.permutations(marks):
            self.assertEqual(mended("abcdef", list(turn)), "efdbc")
        self.check("abcdef", marks, "efdbc")

    def test_spans_that_end_at_the_same_gap(self):
        marks = [About(0, 2, 6), About(2, 3, 6), Carry(3, 6, 0), About(4, 5, 6), Strike(5, 6)]
        for turn in itertools.permutations(marks):
            self.assertEqual(mended("abcdef", list(turn)), "decab")
        self.check("abcdef", marks, "decab")

    def test_several_deep(self):
        galley = "abcdefghijkl"
        self.check(galley, [About(at, at + 1, 12) for at in range(11)], galley[::-1])
        self.check(galley, [About(0, end - 1, end) for end in range(2, 13)], galley[::-1])
        self.check(galley, [Carry(at, 12, at - 1) for at in range(1, 12)], "bdfhjlacegik")
        marks = [Carry(1, 11, 12), About(1, 6, 10), Carry(2, 4, 5), Carry(6, 10, 0), Strike(3, 4), Put(9, "xy")]
        self.check(galley, marks, "ghixyjalbecfk")


class TestAll(Mending):
    def test_every_two_marks(self):
        many = 0
        for size in range(6):
            galley = "bcdef"[:size]
            for pair in itertools.product(every_mark(size), repeat=2):
                marks = list(pair)
                if not quarrels(marks):
                    self.assertEqual(origins(galley, marks), by_gaps(size, marks), tolds(marks))
                    self.assertEqual(mended(galley, marks), mended(galley, marks[::-1]), tolds(marks))
                    many += 1
        self.assertGreater(many, 4000)

    def test_every_three_marks(self):
        for size in range(4):
            for trio in itertools.combinations(every_mark(size), 3):
                marks = list(trio)
                if not quarrels(marks):
                    self.assertEqual(origins("bcd"[:size], marks), by_gaps(size, marks), tolds(marks))

    def test_many_marks_in_many_turns(self):
        dice = Dice(5)
        for _ in range(40):
            size = 2 + dice.below(79)
            galley = "".join(dice.shuffled(EIGHTY)[:size])
            marks = dice.peaceful(size, 30, 60)
            text = mended(galley, marks)
            self.check_origins(galley, marks, text)
            for _ in range(3):
                self.assertEqual(mended(galley, dice.shuffled(marks)), text)

    def test_thirty_marks(self):
        puts = [Put(gap, "xyzxyzxyzxyzxyzxyzxy") for gap in range(30)]
        text = "".join(puts[0].text + sign for sign in EIGHTY[:30]) + EIGHTY[30:]
        self.assertEqual(len(text), 680)
        self.check(EIGHTY, puts, text)
        self.check(EIGHTY, [Strike(gap, gap + 1) for gap in range(30)], EIGHTY[30:])
        self.check(EIGHTY, [About(at, at + 1, 80) for at in range(30)], EIGHTY[30:] + EIGHTY[:30][::-1])

    def test_texts_beyond_eighty_signs(self):
        self.check(EIGHTY, [Put(0, "x"), Put(80, "y")], "x" + EIGHTY + "y")
        marks = [Put(40, "z" * 20), Carry(0, 60, 80), Put(70, "y" * 20)]
        text = EIGHTY[60:70] + "y" * 20 + EIGHTY[70:] + EIGHTY[:40] + "z" * 20 + EIGHTY[40:60]
        self.check(EIGHTY, marks, text)


class TestWhatIsTold(unittest.TestCase):
    def test_kinds(self):
        told = origins("ab", [Put(1, "xy"), Strike(0, 1)])
        self.assertEqual(told, [(0, 0), (0, 1), 1])
        self.assertEqual([type(origin) for origin in told], [tuple, tuple, int])
        self.assertIs(type(told), list)
        self.assertIs(type(mended("ab", [])), str)

    def test_the_pair_is_of_the_marks_count_in_the_list(self):
        self.assertEqual(origins("a", [Strike(0, 1), Put(0, "x"), Put(1, "y")]), [(1, 0), (2, 0)])
        self.assertEqual(origins("a", [Put(1, "y"), Strike(0, 1), Put(0, "x")]), [(2, 0), (0, 0)])

    def test_it_is_new_and_what_is_handed_in_stays(self):
        marks = [Carry(1, 2, 0), Put(1, "x")]
        kept = list(marks)
        told = origins("ab", marks)
        mended("ab", marks)
        told.clear()
        self.assertEqual(origins("ab", marks), [1, 0, (1, 0)])
        self.assertEqual(marks, kept)
        self.assertEqual(tolds(marks), [("carry", 1, 2, 0), ("put", 1, "x")])
        marks.pop()
        self.assertEqual(mended("ab", marks), "ba")

    def test_names(self):
        self.assertEqual(mended(marks=[Put(1, "x")], galley="ab"), "axb")
        self.assertEqual(origins(marks=[Put(1, "x")], galley="ab"), [0, (0, 0), 1])

    def test_they_are_defined_where_the_interface_lists_them(self):
        for name in ("mended", "origins"):
            self.assertEqual(getattr(mending, name).__module__, "galleymarks.mending")


class TestRefusals(unittest.TestCase):
    def refused(self, kind, galley, marks):
        for asked in (mended, origins):
            with self.subTest(asked=asked, marks=repr(marks)[:60]):
                with self.assertRaises(kind) as caught:
                    asked(galley, marks)
                self.assertIs(type(caught.exception), kind)
        return caught.exception

    def test_no_galley(self):
        for wrong in NO_GALLEYS:
            self.refused(BadGalley, wrong, [])

    def test_no_list_of_marks(self):
        for wrong in NO_LISTS:
            self.refused(BadMarks, "ab", wrong)
        for wrong in (*NO_MARKS, Mark()):
            self.refused(BadMarks, "ab", [wrong])
            self.refused(BadMarks, "ab", [Put(0, "a"), wrong])
            self.refused(BadMarks, "ab", [wrong, Put(0, "a")])

    def test_more_than_thirty(self):
        self.refused(BadMarks, EIGHTY, [Put(gap, "a") for gap in range(31)])

    def test_marks_that_do_not_fit(self):
        for wrong in (Strike(0, 3), Put(3, "a"), About(0, 1, 3), Carry(0, 1, 3), Carry(2, 3, 0), Put(10 ** 5000, "a")):
            self.refused(BadMarks, "ab", [wrong])
            self.refused(BadMarks, "ab", [wrong, Put(0, "a")])
            self.refused(BadMarks, "ab", [Put(0, "a"), Strike(0, 1), wrong])
        self.refused(BadMarks, "", [Strike(0, 1)])

    def test_marks_that_quarrel(self):
        marks = [Put(0, "a"), Strike(1, 3), Put(2, "a"), Put(0, "b"), Strike(1, 2)]
        why = self.refused(Quarrel, "abc", marks)
        self.assertEqual((why.one, why.other), (0, 3))
        why = self.refused(Quarrel, "abc", marks[1:])
        self.assertEqual((why.one, why.other), (0, 1))
        why = self.refused(Quarrel, "abc", [Put(0, "a"), Put(3, "a"), Strike(0, 1), Strike(0, 1)])
        self.assertEqual((why.one, why.other), (2, 3))
        why = self.refused(Quarrel, EIGHTY, [Put(gap, "a") for gap in range(29)] + [Put(28, "b")])
        self.assertEqual((why.one, why.other), (28, 29))

    def test_what_is_told_first(self):
        self.refused(BadGalley, "a" * 81, None)
        self.refused(BadGalley, None, [None])
        self.refused(BadGalley, "A", [Put(0, "a"), Put(0, "b")])
        self.refused(BadGalley, 5, [Put(9, "a")])
        self.refused(BadMarks, "ab", [Put(0, "a"), Put(0, "b"), None])
        self.refused(BadMarks, "ab", [Put(0, "a"), Put(0, "b"), Put(3, "b")])
        self.refused(BadMarks, EIGHTY, [Put(0, "a")] * 31)


if __name__ == "__main__":
    unittest.main()
