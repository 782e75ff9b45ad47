"""Promise 9: written sheets, and what is refused there."""

import itertools
import unittest

from galleymarks import papers
from galleymarks.errors import BadGalley, BadMarks, Quarrel
from galleymarks.marks import About, Carry, Mark, Put, Strike
from galleymarks.papers import written
from galleymarks.quarrels import quarrels
from tests.helpers import NO_GALLEYS, NO_LISTS, NO_MARKS, Dice, every_mark, tolds
from tests.paper_helpers import paper_by_events

EIGHTY = "abcdefghijklmnopqrstuvwxyz .,\n" * 2 + "abcdefghijklmnopqrst"


class Written(unittest.TestCase):
    def check(self, galley, marks, *rows):
        """That these rows are written, in whatever turn the marks are handed in."""
        text = "\n".join(rows)
        for turn in (marks, marks[::-1], marks[1:] + marks[:1]):
            with self.subTest(galley=galley, marks=tolds(turn)):
                told = written(galley, turn)
                self.assertIs(type(told), str)
                self.assertEqual(told, text)
                self.assertEqual(paper_by_events(galley, turn), text)


class TestLines(Written):
    def test_no_marks(self):
        for galley in ("", "a", "ab", " ", ", .", "ab\ncd", "\n", "\n\n", "a\n", "\na", "a\n\nb\n", " \n ", EIGHTY):
            self.check(galley, [], galley)

    def test_no_signs(self):
        self.check("", [Put(0, "ab")], "^ / put ab")

    def test_a_row_for_each_line(self):
        self.check("ab\ncd", [Put(1, "x"), Put(4, "y")], "a^b / put x", "c^d / put y")
        self.check("\n", [Put(0, "x"), Put(1, "y")], "^ / put x", "^ / put y")
        self.check("a\n\nb", [Put(2, "x")], "a", "^ / put x", "b")

    def test_a_lines_end_as_the_last_sign(self):
        self.check("ab\n", [Put(2, "x")], "ab^ / put x", "")
        self.check("ab\n", [Put(3, "x")], "ab", "^ / put x")
        self.check("ab\n", [Strike(0, 3)], "<ab / strike", ">")
        self.check("ab\n", [Strike(2, 3)], "ab< / strike", ">")


class TestByThemselves(Written):
    def test_a_strike(self):
        self.check("abc", [Strike(0, 2)], "<ab>c / strike")
        self.check("abc", [Strike(2, 3)], "ab<c> / strike")
        self.check("abc", [Strike(0, 3)], "<abc> / strike")

    def test_a_put(self):
        self.check("abc", [Put(0, "x")], "^abc / put x")
        self.check("abc", [Put(2, "x, y.")], "ab^c / put x, y.")
        self.check("abc", [Put(3, "x" * 20)], "abc^ / put " + "x" * 20)

    def test_an_about(self):
        self.check("abc", [About(0, 1, 3)], "<a|bc> / about")
        self.check("abc", [About(1, 2, 3)], "a<b|c> / about")

    def test_a_carry(self):
        self.check("abcdef", [Carry(0, 2, 4)], "<ab>cd^ef / carry 1 / here 1")
        self.check("abcdef", [Carry(4, 6, 0)], "^abcd<ef> / here 1 / carry 1")
        self.check("abcdef", [Carry(1, 2, 6)], "a<b>cdef^ / carry 1 / here 1")


class TestBesideOneAnother(Written):
    def test_spans_that_begin_at_the_same_gap(self):
        marks = [About(0, 4, 6), About(0, 3, 4), Carry(0, 3, 6), About(0, 1, 2), Strike(0, 1)]
        row = "<<<<<a>|b>c>|d>|ef>^ / about / about / carry 1 / about / strike / here 1"
        for turn in itertools.permutations(marks):
            self.assertEqual(written("abcdef", list(turn)), row)
        self.check("abcdef", marks, row)

    def test_spans_that_end_at_the_same_gap(self):
        marks = [About(0, 2, 6), About(2, 3, 6), Carry(3, 6, 0), About(4, 5, 6), Strike(5, 6)]
        row = "^<ab|<c|<d<e|<f>>>>> / here 1 / about / about / carry 1 / about / strike"
        for turn in itertools.permutations(marks):
            self.assertEqual(written("abcdef", list(turn)), row)
        self.check("abcdef", marks, row)

    def test_a_span_that_ends_where_another_one_begins(self):
        self.check("abcd", [Strike(0, 2), Strike(2, 4)], "<ab><cd> / strike / strike")
        self.check("abcd", [Strike(0, 1), About(1, 2, 3), Strike(3, 4)], "<a><b|c><d> / strike / about / strike")
        self.check("abcd", [About(0, 1, 2), Strike(0, 1), Strike(1, 2)], "<<a>|<b>>cd / about / strike / strike")

    def test_the_turn_at_one_gap(self):
        self.check("abcd", [About(0, 2, 4), Strike(1, 2), Strike(2, 3)], "<a<b>|<c>d> / about / strike / strike")
        self.check("abcd", [Strike(0, 2), Put(2, "x"), Strike(2, 4)], "<ab>^<cd> / strike / put x / strike")
        marks = [About(0, 1, 2), Strike(1, 2), Put(2, "x"), Carry(2, 4, 0), Strike(2, 3)]
        row = "^<a|<b>>^<<c>d> / here 1 / about / strike / put x / carry 1 / strike"
        self.check("abcd", marks, row)

    def test_a_spot_at_the_first_and_the_last_gap(self):
        marks = [Put(0, "x"), Carry(1, 2, 4), Strike(0, 1)]
        self.check("abcd", marks, "^<a><b>cd^ / put x / strike / carry 1 / here 1")
        self.check("abcd", [Put(4, "x"), Strike(0, 4)], "<abcd>^ / strike / put x")


class TestLinesEnds(Written):
    def test_spans_over_them(self):
        self.check("ab\ncd", [Strike(1, 4)], "a<b / strike", "c>d")
        self.check("ab\n\ncd", [Strike(0, 6)], "<ab / strike", "", "cd>")
        self.check("ab\ncd", [Strike(2, 3)], "ab< / strike", ">cd")
        self.check("ab\ncd", [Strike(1, 3), Strike(3, 4)], "a<b / strike", "><c>d / strike")
        self.check("ab\ncd", [Strike(0, 2), Strike(2, 5)], "<ab>< / strike / strike", "cd>")

    def test_rooms_over_them(self):
        self.check("ab\ncd", [About(0, 2, 5)], "<ab| / about", "cd>")
        self.check("ab\ncd", [About(0, 3, 5)], "<ab / about", "|cd>")
        self.check("ab\ncd\ne", [About(1, 4, 7)], "a<b / about", "c|d", "e>")
        self.check("ab\ncd", [Carry(1, 4, 5)], "a<b / carry 1", "c>d^ / here 1")
        marks = [About(0, 3, 7), Strike(2, 3), Carry(4, 7, 8), Put(6, "x")]
        self.check("ab\ncd\nef", marks, "<ab< / about / strike", ">|c<d / carry 1", "^e>>f^ / put x / here 1")

    def test_spots_and_spans_at_them(self):
        marks = [Put(2, "x"), Put(3, "y")]
        self.check("ab\ncd", marks, "ab^ / put x", "^cd / put y")
        self.check("ab\ncd", [Carry(0, 1, 2), Carry(4, 5, 3)], "<a>b^ / carry 1 / here 1", "^c<d> / here 2 / carry 2")
        self.check("ab\ncd", [Carry(0, 1, 3), Carry(4, 5, 2)], "<a>b^ / carry 1 / here 2", "^c<d> / here 1 / carry 2")
        self.check("ab\ncd", [Strike(0, 2), Strike(3, 5)], "<ab> / strike", "<cd> / strike")
        self.check("ab\ncd", [Strike(0, 3), Strike(3, 5)], "<ab / strike", "><cd> / strike")


class TestPuts(Written):
    def test_a_lines_end(self):
        self.check("ab", [Put(1, "x\ny")], "a^b / put x;y")
        self.check("ab", [Put(1, "\n")], "a^b / put ;")
        self.check("a\nb", [Put(1, "\n\n"), Put(2, "x\n")], "a^ / put ;;", "^b / put x;")

    def test_those_that_look_like_an_entry(self):
        for text in ("put x", "strike", "about", "here", "carry", " strike", "strike ", "here ", "carry ", "put put "):
            self.check("ab", [Put(1, text), Strike(1, 2)], f"a^<b> / put {text} / strike")

    def test_blanks(self):
        self.check("ab", [Put(0, " "), Put(1, "  x  "), Put(2, " ")], "^a^b^ / put   / put   x   / put  ")
        self.check(" ", [Put(0, " "), Put(1, " " * 20)], "^ ^ / put   / put " + " " * 20)
        self.check("a  ", [Put(3, " ")], "a  ^ / put  ")
        self.check("a \n b", [Put(2, ", ."), Strike(1, 2)], "a< >^ / strike / put , .", " b")


class TestCarries(Written):
    def test_numbers_as_the_spans_begin(self):
        marks = [Carry(0, 1, 3), Carry(2, 3, 1), Carry(4, 5, 0)]
        self.check("abcdef", marks, "^<a>^b<c>^d<e>f / here 3 / carry 1 / here 2 / carry 2 / here 1 / carry 3")

    def test_one_in_another(self):
        self.check("abcdef", [Carry(1, 4, 6), Carry(1, 2, 4)], "a<<b>cd>^ef^ / carry 1 / carry 2 / here 2 / here 1")
        self.check("abcdef", [Carry(2, 6, 1), Carry(4, 6, 3)], "a^b<c^d<ef>> / here 1 / carry 1 / here 2 / carry 2")
        row = "^a<b<c>d>e^f / here 2 / carry 1 / carry 2 / here 1"
        self.check("abcdef", [Carry(1, 4, 5), Carry(2, 3, 0)], row)

    def test_row_by_row(self):
        marks = [Carry(6, 7, 0), Carry(3, 4, 8), Carry(0, 1, 5)]
        rows = ("^<a>b / here 3 / carry 1", "<c>d^ / carry 2 / here 1", "<e>f^ / carry 3 / here 2")
        self.check("ab\ncd\nef", marks, *rows)

    def test_two_figures(self):
        galley = "abc" * 25
        marks = [Carry(3 * at, 3 * at + 1, 3 * at + 2) for at in range(25)]
        entries = "".join(f" / carry {at} / here {at}" for at in range(1, 26))
        self.check(galley, marks, "<a>b^c" * 25 + entries)

    def test_thirty_marks(self):
        marks = [Carry(at, at + 1, 80 - at) for at in range(30)]
        first, *_ = written(EIGHTY, marks).split("\n")
        line = "".join(f"<{sign}>" for sign in EIGHTY[:29]) + "<"
        self.assertEqual(first, line + "".join(f" / carry {at}" for at in range(1, 31)))
        self.check(EIGHTY, marks, paper_by_events(EIGHTY, marks))
        line = "".join(f"^{sign}" for sign in EIGHTY[:29]) + "^"
        self.check(EIGHTY[:29], [Put(gap, "x") for gap in range(30)], line + " / put x" * 30)


class TestAll(Written):
    def test_every_two_marks(self):
        for galley in ("", "a", "\n", "bc", "b\n", "bcd", "b\nd", "bc\nd", "\nc\n\n"):
            for one, other in itertools.combinations(every_mark(len(galley)), 2):
                if not quarrels([one, other]):
                    text = paper_by_events(galley, [one, other])
                    self.assertEqual(written(galley, [one, other]), text)
                    self.assertEqual(written(galley, [other, one]), text)

    def test_many_marks_in_many_turns(self):
        dice = Dice(31)
        for _ in range(60):
            size = 2 + dice.below(79)
            galley = "".join(dice.shuffled(EIGHTY)[:size])
            marks = dice.peaceful(size, 30, 60)
            text = paper_by_events(galley, marks)
            for _ in range(3):
                self.assertEqual(written(galley, dice.shuffled(marks)), text)


class TestWhatIsHandedIn(unittest.TestCase):
    def test_it_stays(self):
        marks = [Carry(1, 2, 0), Put(1, "x")]
        kept = list(marks)
        written("ab", marks)
        self.assertEqual(marks, kept)
        self.assertEqual(tolds(marks), [("carry", 1, 2, 0), ("put", 1, "x")])

    def test_names(self):
        self.assertEqual(written(marks=[Put(1, "x")], galley="ab"), "a^b / put x")

    def test_it_is_defined_where_the_interface_lists_it(self):
        self.assertEqual(papers.written.__module__, "galleymarks.papers")


class TestRefusals(unittest.TestCase):
    def refused(self, kind, galley, marks):
        with self.subTest(marks=repr(marks)[:60]):
            with self.assertRaises(kind) as caught:
                written(galley, marks)
            self.assertIs(type(caught.exception), kind)
            return caught.exception

    def test_no_galley(self):
        for wrong in NO_GALLEYS:
            self.refused(BadGalley, wrong, [])
            self.refused(BadGalley, wrong, None)

    def test_no_marks(self):
        for wrong in (*NO_LISTS, *[[wrong] for wrong in NO_MARKS], [Mark()]):
            self.refused(BadMarks, "ab", wrong)
        for wrong in (Strike(0, 3), Put(3, "a"), About(0, 1, 3), Carry(0, 1, 3), Carry(2, 3, 0)):
            self.refused(BadMarks, "ab", [Put(0, "a"), wrong])
        self.refused(BadMarks, EIGHTY, [Put(gap, "a") for gap in range(31)])
        self.refused(BadMarks, "ab", [Put(0, "a"), Put(0, "b"), None])

    def test_quarrels(self):
        why = self.refused(Quarrel, "abc", [Put(0, "a"), Strike(1, 3), Put(2, "a"), Put(0, "b")])
        self.assertEqual((why.one, why.other), (0, 3))
        why = self.refused(Quarrel, "abc", [Put(0, "a"), About(0, 1, 3), Put(1, "a"), Put(0, "b")])
        self.assertEqual((why.one, why.other), (0, 3))
        why = self.refused(Quarrel, "abc", [Put(3, "a"), About(0, 1, 3), Put(1, "a"), Put(3, "b")][1:])
        self.assertEqual((why.one, why.other), (0, 1))


if __name__ == "__main__":
    unittest.main()
