"""Promise 11: the price of marks, and the cheapest ones from galley to galley."""

import itertools
import time
import unittest

from galleymarks import cheapest as module
from galleymarks.answers import Answer, Cheapest
from galleymarks.cheapest import cheapest, price
from galleymarks.errors import BadGalley, BadMark
from galleymarks.marks import About, Carry, Mark, Put, Strike
from galleymarks.mending import mended
from galleymarks.quarrels import quarrels
from tests.cheapest_helpers import cost, heights_are_right, least_price, marks_are_right, ways
from tests.helpers import NO_GALLEYS, NO_MARKS, Dice, every_mark, tolds

LONG = (
    ("abcdefghijklmnop", "abcdefghijklmnop"), ("abcdefghijklmnop", "ponmlkjihgfedcba"),
    ("abcdefghijklmnop", "ijklmnopabcdefgh"), ("abcdefgh", "zyxwvuts"), ("abcdefghijklmnop", "qrstuvwxyz., \nzy"),
    ("a" * 16, "a" * 16), ("a" * 16, "b" * 16), ("ab" * 8, "ba" * 8), ("aab" * 5, "baa" * 5), ("", "abcdefghijklmnop"),
    ("abcdefghijklmnop", ""), ("abcdefghijklmnop", "gh"), ("gh", "abcdefghijklmnop"), ("a" * 16, "a" * 3),
    ("so it was, again", "it was so again."), ("of the type, set", "set of the type,"), ("\n" * 16, " " * 16),
    ("abcd efgh ijkl m", "efgh abcd m ijkl"), ("aabbaabbaabbaabb", "bbaabbaabbaabbaa"), ("abababababababab", "aabbaabbaabbaabb"),
)


def texts(signs, most):
    """All texts of at most so many of the signs."""
    return ["".join(text) for size in range(most + 1) for text in itertools.product(signs, repeat=size)]


class TestPrice(unittest.TestCase):
    def test_strikes(self):
        for begin, end, told in ((0, 1, 3), (0, 2, 4), (5, 7, 4), (3, 19, 18), (0, 80, 82), (10 ** 30, 10 ** 30 + 9, 11)):
            self.assertEqual(price(Strike(begin, end)), told)

    def test_puts(self):
        for gap, text, told in ((0, "a", 3), (7, "a", 3), (0, "a b", 5), (80, "\n\n", 4), (3, "x" * 20, 22)):
            self.assertEqual(price(Put(gap, text)), told)

    def test_abouts(self):
        for begin, middle, end, told in (
            (0, 1, 2, 3), (0, 1, 9, 3), (0, 8, 9, 3), (4, 6, 9, 4), (4, 7, 9, 4), (0, 4, 8, 6), (0, 3, 8, 5), (0, 5, 8, 5), (0, 40, 80, 42),
        ):
            self.assertEqual(price(About(begin, middle, end)), told)

    def test_every_mark(self):
        for mark in every_mark(7):
            if not isinstance(mark, Carry):
                self.assertEqual(price(mark), cost(mark))
                self.assertIs(type(price(mark)), int)

    def test_refusals(self):
        for wrong in (*NO_MARKS, Mark(), Carry(0, 1, 2), Carry(1, 2, 0), Cheapest([], [[0]]), [Strike(0, 1)], ("strike", 0, 1)):
            with self.subTest(wrong=wrong.__class__.__name__), self.assertRaises(BadMark) as caught:
                price(wrong)
            self.assertIs(type(caught.exception), BadMark)

    def test_names(self):
        self.assertEqual(price(mark=Strike(0, 1)), 3)


class Cheapests(unittest.TestCase):
    def check(self, one, other):
        """The least price, by marks and heights that are as the document tells."""
        told = cheapest(one, other)
        with self.subTest(one=one, other=other, marks=tolds(told.marks)):
            self.assertIs(type(told), Cheapest)
            self.assertIsInstance(told, Answer)
            self.assertEqual([type(told.marks), type(told.heights)], [list, list])
            self.assertEqual({type(row) for row in told.heights}, {list})
            self.assertEqual({type(height) for row in told.heights for height in row}, {int})
            self.assertTrue(marks_are_right(told.marks, one, other))
            self.assertEqual(quarrels(told.marks), [])
            self.assertEqual(mended(one, told.marks), other)
            self.assertTrue(heights_are_right(told.heights, one, other))
            self.assertEqual(sum(price(mark) for mark in told.marks), told.heights[-1][-1])
            self.assertIs(told.shows(one, other), True)
        return told.heights[-1][-1]


class TestCheapest(Cheapests):
    def test_nothing_to_do(self):
        for galley in ("", "a", "ab", "aaaa", "\n \n", "abcdefghijklmnop"):
            self.assertEqual(self.check(galley, galley), 0)
            self.assertEqual(cheapest(galley, galley).marks, [])

    def test_of_nothing_and_to_nothing(self):
        for galley in ("a", "ab", "a\nb, c.", "abcdefghijklmnop"):
            self.assertEqual(self.check("", galley), 2 + len(galley))
            self.assertEqual(self.check(galley, ""), 2 + len(galley))
            self.assertEqual(tolds(cheapest("", galley).marks), [("put", 0, galley)])
            self.assertEqual(tolds(cheapest(galley, "").marks), [("strike", 0, len(galley))])
        self.assertEqual(cheapest("", "").heights, [[0]])

    def test_one_in_the_other(self):
        self.assertEqual(self.check("abcd", "bc"), 6)
        self.assertEqual(self.check("bc", "abcd"), 6)
        self.assertEqual(self.check("abcdef", "abef"), 4)
        self.assertEqual(self.check("abef", "abcdef"), 4)
        self.assertEqual(self.check("abcdef", "cd"), 8)
        self.assertEqual(self.check("aaaa", "aa"), 4)

    def test_nothing_in_common(self):
        self.assertEqual(self.check("ab", "xy"), 8)
        self.assertEqual(self.check("a", "x"), 6)
        self.assertEqual(self.check("abcdefghijklmnop", "qrstuvwxyz., \nzy"), 36)

    def test_parts_changed_about(self):
        self.assertEqual(self.check("ab", "ba"), 3)
        self.assertEqual(self.check("abcdef", "bcdefa"), 3)
        self.assertEqual(self.check("abcdef", "fabcde"), 3)
        self.assertEqual(self.check("abcdefgh", "efghabcd"), 6)
        self.assertEqual(self.check("abcdefgh", "bacdefhg"), 6)
        self.assertEqual(self.check("xabcdefy", "xdefabcy"), 5)
        self.assertEqual(self.check("abcdefghijklmnop", "ijklmnopabcdefgh"), 10)
        self.assertEqual(tolds(cheapest("xabcy", "xcaby").marks), [("about", 1, 3, 4)])

    def test_kinds_together(self):
        self.assertEqual(self.check("abcdefgh", "bacdxgh"), 3 + 4 + 3)
        self.assertEqual(self.check("so it was, again", "it was, so again"), 5)

    def test_all_galleys_of_at_most_three_signs(self):
        for one in texts("ab", 3):
            found = ways(one)
            for other in texts("ab", 4):
                self.assertEqual(self.check(one, other), least_price(found, other))

    def test_galleys_of_three_sorts(self):
        for one in ("abc", "aabc", "abca", "cabb"):
            found = ways(one)
            for other in texts("abc", 3) + ["abcabc", "cbacba", "bcabca", "xabcx"]:
                self.assertEqual(self.check(one, other), least_price(found, other))

    def test_galleys_of_five_and_six_signs(self):
        for one in ("abcde", "aabab", "abcabd", "ab\nab "):
            found = ways(one)
            dice = Dice(len(one))
            others = [one[::-1], one[2:] + one[:2], one + one[:2], one[1:-1], "x" + one[1:], one[3:] + "y" + one[:3]]
            others += ["".join(dice.shuffled(one + "x")[:dice.below(7)]) for _ in range(8)]
            for other in others:
                self.assertEqual(self.check(one, other), least_price(found, other))


class TestLongGalleys(Cheapests):
    def test_of_up_to_sixteen_signs(self):
        for one, other in LONG:
            begin = time.monotonic()
            cheapest(one, other)
            self.assertLess(time.monotonic() - begin, 2)
            there, back = self.check(one, other), self.check(other, one)
            self.assertEqual(there, back)
            self.assertLessEqual(there, 4 + len(one) + len(other))

    def test_of_few_sorts_of_signs_and_of_many(self):
        dice = Dice(43)
        for signs in ("ab", "abc", "abcdefgh", "abcdefghijklmnopqrstuvwxyz .,\n"):
            for size in range(1, 17, 3):
                one = "".join(signs[dice.below(len(signs))] for _ in range(size))
                at = dice.below(size)
                other = one[at:] + "".join(signs[dice.below(len(signs))] for _ in range(3)) + one[:at]
                self.check(one, other[:16])
                self.check(one, "".join(dice.shuffled(one)))


class TestWhatIsTold(Cheapests):
    def test_it_is_new_each_time(self):
        told = cheapest("abc", "cab")
        told.marks.clear()
        for row in told.heights:
            row.clear()
        told.heights.clear()
        self.assertEqual(self.check("abc", "cab"), 3)

    def test_names(self):
        self.assertEqual(tolds(cheapest(other="ab", one="").marks), [("put", 0, "ab")])

    def test_they_are_defined_where_the_interface_lists_them(self):
        for name in ("price", "cheapest"):
            self.assertEqual(getattr(module, name).__module__, "galleymarks.cheapest")


class TestRefusals(unittest.TestCase):
    def refused(self, one, other):
        with self.subTest(one=one.__class__.__name__, other=other.__class__.__name__):
            with self.assertRaises(BadGalley) as caught:
                cheapest(one, other)
            self.assertIs(type(caught.exception), BadGalley)

    def test_no_galley(self):
        for wrong in (*NO_GALLEYS, "a" * 17, "a" * 80, "\n" * 17):
            self.refused(wrong, "ab")
            self.refused("ab", wrong)
            self.refused(wrong, wrong)
            self.refused(wrong, None)
            self.refused(None, wrong)


if __name__ == "__main__":
    unittest.main()
