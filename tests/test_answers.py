"""Promise 11: answers made by hand, and whether they show what they should."""

import itertools
import unittest

from galleymarks import answers
from galleymarks.answers import Answer, Cheapest
from galleymarks.cheapest import cheapest
from galleymarks.marks import About, Carry, Put, Strike
from tests.cheapest_helpers import answer_is_right
from tests.helpers import Dice, every_mark, tolds

QUESTIONS = (
    ("", ""), ("", "ab"), ("ab", ""), ("ab", "ab"), ("ab", "ba"), ("abc", "xbcy"), ("abcde", "cdeab"), ("abcdef", "bacxfe"),
    ("aabb", "bbaa"), ("a\nb", "b\na"), ("abcdefghijklmnop", "ijklmnopabcdefgh"), ("aab" * 5, "baa" * 5),
)


def by_hand(one, other):
    """The fields of the cheapest answer, to be bent."""
    told = cheapest(one, other)
    return told.marks, told.heights


def with_last(heights, height):
    """The same heights, but for the one of all signs of both."""
    return [*heights[:-1], [*heights[-1][:-1], height]]


class Shows(unittest.TestCase):
    def same(self, marks, heights, one, other):
        """Whether it shows, which must be the truth."""
        told = Cheapest(marks, heights)
        with self.subTest(marks=tolds(marks), heights=heights, one=one, other=other):
            self.assertIs(told.shows(one, other), answer_is_right(marks, heights, one, other))
        return told.shows(one, other)

    def shown(self, marks, heights, one, other):
        self.assertIs(self.same(marks, heights, one, other), True)

    def not_shown(self, marks, heights, one, other):
        self.assertIs(self.same(marks, heights, one, other), False, (tolds(marks), heights, one, other))


class TestFields(unittest.TestCase):
    def test_they_are_copies(self):
        marks, heights = [Strike(0, 1)], [[0], [3]]
        told = Cheapest(marks, heights)
        self.assertEqual((told.marks, told.heights), (marks, heights))
        self.assertIs(told.marks[0], marks[0])
        marks.append(Strike(0, 1))
        heights[1][0] = 4
        heights.append([5])
        self.assertEqual((tolds(told.marks), told.heights), ([("strike", 0, 1)], [[0], [3]]))
        self.assertIs(told.shows("a", ""), True)
        told.marks.clear()
        told.heights[0].append(7)
        told.heights.pop()
        self.assertEqual((len(marks), heights), (2, [[0], [4], [5]]))

    def test_the_same_list_twice(self):
        row = [0]
        told = Cheapest([], [row, row])
        told.heights[1][0] = 3
        self.assertEqual((told.heights, row), ([[0], [3]], [0]))

    def test_two_answers_beside_one_another(self):
        one, other = cheapest("ab", "ba"), cheapest("ab", "ba")
        one.marks.clear()
        one.heights[0][0] = 1
        self.assertIs(other.shows("ab", "ba"), True)

    def test_names_and_places(self):
        told = Cheapest(heights=[[0, 3]], marks=[Put(0, "x")])
        self.assertIs(told.shows(other="x", one=""), True)
        self.assertIs(told.shows(other="", one="x"), False)
        self.assertEqual(Cheapest.__bases__, (Answer,))
        self.assertIn("shows", vars(Cheapest))
        for name in ("Answer", "Cheapest"):
            self.assertEqual(getattr(answers, name).__module__, "galleymarks.answers")

    def test_shows_changes_nothing(self):
        told = cheapest("abcde", "cdeab")
        before = list(told.marks), [list(row) for row in told.heights]
        told.shows("abcde", "cdeab")
        told.shows("abcde", "abcde")
        self.assertEqual((told.marks, told.heights), before)


class TestMarks(Shows):
    def test_as_they_were_told(self):
        for one, other in QUESTIONS:
            marks, heights = by_hand(one, other)
            self.shown(marks, heights, one, other)
            self.shown(marks[::-1], heights, one, other)

    def test_other_marks_at_the_same_price(self):
        heights = by_hand("aa", "a")[1]
        self.shown([Strike(0, 1)], heights, "aa", "a")
        self.shown([Strike(1, 2)], heights, "aa", "a")
        heights = by_hand("ab", "xy")[1]
        self.shown([Strike(0, 2), Put(0, "xy")], heights, "ab", "xy")
        self.shown([Put(2, "xy"), Strike(0, 2)], heights, "ab", "xy")

    def test_fields_changed_in_place(self):
        told = cheapest("abc", "xbc")
        kept = list(told.marks)
        told.marks.pop()
        self.assertIs(told.shows("abc", "xbc"), False)
        told.marks.append(kept[-1])
        self.assertIs(told.shows("abc", "xbc"), True)
        told.marks.append(Put(3, "y"))
        self.assertIs(told.shows("abc", "xbc"), False)
        told.marks = kept
        told.heights[1][1] += 1
        self.assertIs(told.shows("abc", "xbc"), False)
        told.heights[1][1] -= 1
        self.assertIs(told.shows("abc", "xbc"), True)
        told.heights.append(list(told.heights[0]))
        self.assertIs(told.shows("abc", "xbc"), False)
        told.heights = cheapest("abc", "xbc").heights
        self.assertIs(told.shows("abc", "xbc"), True)

    def test_one_less_and_one_more(self):
        for one, other in QUESTIONS:
            marks, heights = by_hand(one, other)
            for at in range(len(marks)):
                self.not_shown(marks[:at] + marks[at + 1:], heights, one, other)
                self.not_shown([*marks, marks[at]], heights, one, other)
            for mark in every_mark(min(3, len(one))):
                self.not_shown([*marks, mark], heights, one, other)

    def test_dearer_ones(self):
        heights = by_hand("ab", "ba")[1]
        self.not_shown([Strike(0, 1), Put(2, "a")], heights, "ab", "ba")
        heights = by_hand("abc", "ac")[1]
        self.not_shown([Strike(1, 3), Put(3, "c")], heights, "abc", "ac")
        heights = by_hand("abcd", "")[1]
        self.not_shown([Strike(0, 2), Strike(2, 4)], heights, "abcd", "")
        self.not_shown([Strike(0, 2), Strike(2, 4)], with_last(heights, 8), "abcd", "")
        heights = by_hand("aa", "aa")[1]
        self.not_shown([About(0, 1, 2)], heights, "aa", "aa")

    def test_cheaper_ones_that_mend_something_else(self):
        heights = by_hand("abcd", "dcba")[1]
        for marks, together in ([], 0), ([About(0, 1, 4)], 3), ([About(0, 2, 4)], 4):
            self.not_shown(marks, heights, "abcd", "dcba")
            self.not_shown(marks, with_last(heights, together), "abcd", "dcba")

    def test_carries(self):
        for carry in (Carry(0, 1, 2), Carry(1, 2, 0)):
            self.assertIs(Cheapest([carry], by_hand("ab", "ba")[1]).shows("ab", "ba"), False)
        heights = by_hand("abc", "xbca")[1]
        self.assertIs(Cheapest([Carry(0, 1, 3), Put(0, "x")], heights).shows("abc", "xbca"), False)

    def test_marks_that_quarrel(self):
        heights = by_hand("ab", "xyab")[1]
        self.not_shown([Put(0, "x"), Put(0, "y")], heights, "ab", "xyab")
        self.not_shown([Put(0, "xy"), Put(0, "xy")], heights, "ab", "xyab")
        heights = by_hand("abc", "")[1]
        for marks in (
            [Strike(0, 3), Strike(0, 3)], [Strike(0, 3), Strike(1, 2)], [Strike(0, 2), Strike(1, 3)], [Strike(0, 3), Put(1, "a")],
            [Strike(0, 3), About(0, 1, 3)], [About(0, 1, 3), Put(1, "x")], [About(0, 1, 3), Strike(0, 2)],
        ):
            for other in ("", "abc"):
                self.not_shown(marks, heights, "abc", other)

    def test_marks_that_do_not_fit(self):
        for marks in (
            [Strike(0, 3)], [Strike(2, 3)], [Put(3, "x")], [About(0, 1, 3)], [Put(10 ** 5000, "a")], [Strike(1, 2), Put(80, "x")],
        ):
            for one, other in (("ab", ""), ("ab", "abx"), ("ab", "ba"), ("ab", "ab")):
                self.assertIs(Cheapest(marks, by_hand(one, other)[1]).shows(one, other), False)

    def test_spans_in_one_another(self):
        for marks, other, together, least in (
            ([About(0, 2, 4), About(2, 3, 4)], "dcabef", 7, 8),
            ([About(0, 3, 6), Strike(4, 5)], "dfabc", 8, 9),
        ):
            heights = by_hand("abcdef", other)[1]
            self.assertEqual(heights[-1][-1], least)
            self.not_shown(marks, heights, "abcdef", other)
            # Such heights would show it, if the marks might lie so.
            self.not_shown(marks, with_last(heights, together), "abcdef", other)

    def test_a_span_in_another_one_at_the_least_price(self):
        found = 0
        for one in ("abcd", "aabb", "abab"):
            for marks in itertools.product([About(0, m, 4) for m in (1, 2, 3)], every_mark(4)):
                marks = list(marks)
                if any(isinstance(mark, Carry) for mark in marks):
                    continue
                for other in {"".join(text) for text in itertools.permutations(one)}:
                    self.same(marks, by_hand(one, other)[1], one, other)
                    found += 1
        self.assertGreater(found, 500)

    def test_a_spot_in_a_span(self):
        for other, gap in (("cdaxb", 1), ("cxdab", 3)):
            heights = by_hand("abcd", other)[1]
            self.assertEqual(heights[-1][-1], 9)
            self.not_shown([About(0, 2, 4), Put(gap, "x")], heights, "abcd", other)
            self.not_shown([About(0, 2, 4), Put(gap, "x")], with_last(heights, 7), "abcd", other)
        for other, gap in (("xcdab", 0), ("cdabx", 4)):
            self.shown([About(0, 2, 4), Put(gap, "x")], by_hand("abcd", other)[1], "abcd", other)


class TestHeights(Shows):
    def test_one_number_bent(self):
        shown = 0
        for one, other in QUESTIONS[:-2]:
            marks, heights = by_hand(one, other)
            for at, beside in itertools.product(range(len(one) + 1), range(len(other) + 1)):
                for bend in (-9, -2, -1, 1, 2):
                    bent = [list(row) for row in heights]
                    bent[at][beside] += bend
                    shown += self.same(marks, bent, one, other)
            self.not_shown(marks, with_last(heights, heights[-1][-1] - 1), one, other)
        self.assertGreater(shown, 20)

    def test_up_is_never_shown_of_the_greatest_ones(self):
        for one, other in QUESTIONS:
            marks, heights = by_hand(one, other)
            for at, beside in itertools.product(range(len(one) + 1), range(len(other) + 1)):
                heights[at][beside] += 1
                self.assertIs(Cheapest(marks, heights).shows(one, other), False)
                heights[at][beside] -= 1

    def test_all_bent(self):
        for one, other in QUESTIONS:
            marks, heights = by_hand(one, other)
            self.not_shown(marks, [[height + 1 for height in row] for row in heights], one, other)
            self.not_shown(marks, [[height - 1 for height in row] for row in heights], one, other)
            self.same(marks, [[0 for _ in row] for row in heights], one, other)
            self.same(marks, [[2 * height for height in row] for row in heights], one, other)

    def test_noughts_only(self):
        for one, other in QUESTIONS:
            marks, heights = by_hand(one, other)
            noughts = [[0] * len(row) for row in heights]
            self.assertIs(Cheapest(marks, noughts).shows(one, other), one == other)

    def test_lower_ones_may_do(self):
        marks, heights = by_hand("ab", "xab")
        self.assertEqual(heights[-1][-1], 3)
        self.shown(marks, [[0, 3, 3, 3], [0, 0, 3, 3], [0, 0, 0, 3]], "ab", "xab")

    def test_as_they_would_be_without_abouts(self):
        one, other = "abcde", "cdeab"
        heights = [[0] * 6 for _ in range(6)]
        for at, beside in itertools.product(range(6), repeat=2):
            bounds = [heights[at - many][beside] + 2 + many for many in range(1, at + 1)]
            bounds += [heights[at][beside - many] + 2 + many for many in range(1, beside + 1)]
            if at and beside and one[at - 1] == other[beside - 1]:
                bounds.append(heights[at - 1][beside - 1])
            heights[at][beside] = min(bounds, default=0)
        self.assertEqual(heights[5][5], 8)
        self.not_shown([Strike(0, 2), Put(5, "ab")], heights, one, other)
        self.not_shown([About(0, 2, 5)], heights, one, other)

    def test_other_sizes(self):
        for one, other in QUESTIONS:
            marks, heights = by_hand(one, other)
            for bent in (
                [], [[]], [[0]], heights[:-1], heights[1:], [*heights, heights[-1]], [row[:-1] for row in heights],
                [[*row, row[-1]] for row in heights], [*heights[:-1], []], [*heights[:-1], [*heights[-1], heights[-1][-1]]],
                [[*heights[0], 9], *heights[1:]], [[0], *heights], [[] for _ in heights],
            ):
                if bent != heights:
                    self.not_shown(marks, bent, one, other)

    def test_true_and_false_are_no_numbers(self):
        self.assertIs(Cheapest([], [[0]]).shows("", ""), True)
        self.assertIs(Cheapest([], [[False]]).shows("", ""), False)

    def test_huge_numbers(self):
        self.assertIs(Cheapest([Put(0, "x")], [[0, 10 ** 5000]]).shows("", "x"), False)
        self.assertIs(Cheapest([Put(0, "x")], [[0, -10 ** 5000]]).shows("", "x"), False)


class TestQuestions(Shows):
    def test_the_galleys_of_another_question(self):
        for (one, other), (another, yet_another) in itertools.permutations(QUESTIONS, 2):
            marks, heights = by_hand(one, other)
            self.not_shown(marks, heights, another, yet_another)
        for one, other in QUESTIONS:
            if one != other:
                self.same(*by_hand(one, other), other, one)
                self.not_shown(*by_hand(one, other), one, one)
                self.not_shown(*by_hand(one, other), other, other)

    def test_random_ones(self):
        dice, shown = Dice(47), 0
        for _ in range(300):
            one = "".join("ab"[dice.below(2)] for _ in range(dice.below(6)))
            other = "".join("ab"[dice.below(2)] for _ in range(dice.below(6)))
            marks, heights = by_hand(one, other)
            for _ in range(dice.below(4)):
                at, beside = dice.below(len(one) + 1), dice.below(len(other) + 1)
                heights[at][beside] += dice.below(7) - 4
            shown += self.same(marks, heights, one, other)
        self.assertGreater(shown, 100)

    def test_beyond_sixteen_signs(self):
        galley = "abcdefghijklmnopqrstuvwxyz"
        for one, other in ((galley, galley), ("", galley), (galley, ""), (galley, galley[::-1])):
            self.assertIn(Cheapest([], [[0] * (len(other) + 1)] * (len(one) + 1)).shows(one, other), (True, False))
        self.assertIn(Cheapest([Put(at, "x") for at in range(17)] * 3, [[0]]).shows(galley, galley), (True, False))


if __name__ == "__main__":
    unittest.main()
