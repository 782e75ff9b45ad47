"""Promise 2: which marks fit which galleys, and what is no galley."""

import unittest

from galleymarks.errors import BadGalley
from galleymarks.marks import About, Carry, Put, Strike

LARGE = 10 ** 5000
SIGNS = "abcdefghijklmnopqrstuvwxyz .,\n"
ONE_OF_EACH = (Strike(0, 1), Put(0, "a"), About(0, 1, 2), Carry(0, 1, 2))


class TestFits(unittest.TestCase):
    def check_greatest(self, mark, greatest):
        """That just the galleys fit that have at least so many signs."""
        with self.subTest(told=mark.told()):
            self.assertIs(mark.fits("a" * greatest), True)
            if greatest < 80:
                self.assertIs(mark.fits("a" * (greatest + 1)), True)
            if greatest > 0:
                self.assertIs(mark.fits("a" * (greatest - 1)), False)
            self.assertIs(mark.fits("a" * 80), True)

    def test_the_greatest_number_against_the_count_of_signs(self):
        for greatest in (4, 5, 40, 79, 80):
            self.check_greatest(Strike(0, greatest), greatest)
            self.check_greatest(Strike(greatest - 1, greatest), greatest)
            self.check_greatest(Put(greatest, "a" * 20), greatest)
            self.check_greatest(About(0, 1, greatest), greatest)
            self.check_greatest(About(greatest - 2, greatest - 1, greatest), greatest)
            self.check_greatest(Carry(0, 1, greatest), greatest)
            self.check_greatest(Carry(greatest - 1, greatest, 0), greatest)
            self.check_greatest(Carry(greatest - 2, greatest - 1, greatest), greatest)

    def test_the_least_marks(self):
        self.check_greatest(Strike(0, 1), 1)
        self.check_greatest(Put(0, "a"), 0)
        self.check_greatest(Put(1, "a"), 1)
        self.check_greatest(About(0, 1, 2), 2)
        self.check_greatest(Carry(0, 1, 2), 2)
        self.check_greatest(Carry(1, 2, 0), 2)

    def test_the_empty_galley(self):
        self.assertIs(Put(0, "a").fits(""), True)
        self.assertIs(Put(1, "a").fits(""), False)
        self.assertIs(Strike(0, 1).fits(""), False)
        self.assertIs(About(0, 1, 2).fits(""), False)
        self.assertIs(Carry(0, 1, 2).fits(""), False)

    def test_marks_past_every_galley(self):
        for mark in (
            Strike(80, 81), Put(81, "a"), About(0, 1, 81), Carry(0, 1, 81), Carry(80, 81, 0),
            Strike(0, LARGE), Put(LARGE, "a"), About(0, 1, LARGE), Carry(0, 1, LARGE), Carry(1, LARGE, 0),
        ):
            self.assertIs(mark.fits("a" * 80), False)
            self.assertIs(mark.fits(""), False)

    def test_a_galley_is_taken_by_its_name(self):
        for mark in ONE_OF_EACH:
            self.assertIs(mark.fits(galley="ab"), True)

    def test_every_sign(self):
        for mark in ONE_OF_EACH:
            self.assertIs(mark.fits(SIGNS), True)
            self.assertIs(mark.fits("\n" * 80), True)
            for sign in SIGNS:
                self.assertIs(mark.fits(sign * 2), True)


class TestNoGalley(unittest.TestCase):
    def refused(self, galley):
        for mark in ONE_OF_EACH + (Strike(80, 81), Put(LARGE, "a")):
            with self.assertRaises(BadGalley):
                mark.fits(galley)

    def test_more_than_eighty_signs(self):
        self.refused("a" * 81)
        self.refused("\n" * 81)
        self.refused("a" * 200)

    def test_one_bad_sign(self):
        for wrong in ("A", "Z", "0", "9", ";", "\t", "\r", "\x00", "|", "^", "<", ">", "/", "\u00e4", "\ud800"):
            with self.subTest(wrong=ascii(wrong)):
                self.refused(wrong)
                self.refused("ab" + wrong)
                self.refused(wrong + "ab")
                self.refused("a" * 79 + wrong)

    def test_no_text(self):
        for wrong in (
            None, True, False, 0, 3, b"", b"ab", [], ["a", "b"], ("a",), {}, {"a"},
            object(), str, Put(0, "a"),
        ):
            with self.subTest(wrong=wrong):
                self.refused(wrong)


if __name__ == "__main__":
    unittest.main()
