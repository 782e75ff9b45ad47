"""Promise 3: which marks quarrel, clause by clause, and the pairs told of many."""

import itertools
import unittest

from galleymarks import quarrels as module
from galleymarks.errors import BadMarks
from galleymarks.marks import About, Carry, Mark, Put, Strike, mark_of
from galleymarks.quarrels import quarrels
from tests.helpers import every_mark

LARGE = 10 ** 5000


class TestClauses(unittest.TestCase):
    """The marks of each test quarrel by its clause alone, or just don't by any."""

    def check(self, one, other, expected):
        with self.subTest(one=one.told(), other=other.told()):
            self.assertEqual(quarrels([one, other]), expected)
            self.assertEqual(quarrels([other, one]), expected)

    def at_odds(self, one, *others):
        for other in others:
            self.check(one, other, [(0, 1)])

    def at_peace(self, one, *others):
        for other in others:
            self.check(one, other, [])

    def test_spots_are_the_same(self):
        self.at_odds(Put(3, "a"), Put(3, "a"), Put(3, "b"), Carry(0, 1, 3), Carry(5, 7, 3))
        self.at_odds(Carry(0, 1, 4), Carry(6, 7, 4), Carry(2, 3, 4))
        self.at_odds(Put(0, "a"), Put(0, "b"), Carry(5, 7, 0))
        self.at_odds(Put(LARGE, "a"), Put(LARGE, "b"))
        self.at_peace(Put(3, "a"), Put(2, "a"), Put(4, "a"), Carry(0, 1, 4), Carry(5, 7, 2))
        self.at_peace(Carry(0, 1, 4), Carry(6, 7, 3), Carry(6, 7, 5), Carry(2, 3, 5))
        self.at_peace(Put(0, "a"), Put(1, "a"))

    def test_no_spots_are_not_the_same(self):
        self.at_peace(Strike(0, 1), Strike(2, 3), About(2, 3, 4))
        self.at_peace(About(0, 1, 2), About(2, 3, 4))

    def test_spans_are_the_same(self):
        self.at_odds(Carry(2, 5, 0), Carry(2, 5, 1), Carry(2, 5, 6), Carry(2, 5, 7))
        self.at_odds(Strike(2, 5), Strike(2, 5), About(2, 3, 5), Carry(2, 5, 7))
        self.at_odds(About(2, 3, 5), About(2, 3, 5), About(2, 4, 5), Carry(2, 5, 7))
        self.at_peace(Carry(2, 5, 0), Carry(2, 4, 7), Carry(3, 5, 7), Carry(2, 6, 7), Carry(1, 5, 7))

    def test_no_spans_are_not_the_same(self):
        self.at_peace(Put(0, "a"), Put(1, "a"))

    def test_spans_cross(self):
        self.at_odds(Carry(2, 5, 0), Carry(4, 7, 9), Carry(1, 3, 9), Carry(4, 6, 1))
        self.at_odds(Strike(2, 5), Strike(4, 7), About(4, 6, 7), Carry(4, 7, 9))
        self.at_odds(About(2, 3, 5), About(4, 5, 6), About(1, 2, 3), Carry(4, 6, 8))
        self.at_peace(Carry(2, 5, 0), Carry(5, 7, 9), Carry(1, 2, 9), Carry(6, 7, 9))
        self.at_peace(Strike(2, 5), Strike(5, 7), About(5, 6, 7), Carry(5, 7, 9), Carry(0, 2, 6))
        self.at_peace(About(2, 3, 5), About(5, 6, 7), About(0, 1, 2), Carry(5, 7, 9))

    def test_a_span_that_lies_in_the_other_does_not_cross_it(self):
        self.at_peace(Carry(2, 6, 8), Carry(3, 5, 9), Carry(2, 5, 9), Carry(3, 6, 0), Carry(2, 3, 5))
        self.at_peace(Carry(2, 6, 8), Strike(2, 5), About(3, 4, 6), Strike(3, 4))
        self.at_peace(About(2, 5, 8), Strike(2, 4), About(5, 6, 8), Carry(2, 4, 9))

    def test_a_span_lies_in_that_of_a_strike(self):
        self.at_odds(Strike(2, 6), Strike(3, 5), Strike(2, 3), Strike(5, 6), Strike(2, 5), Strike(3, 6))
        self.at_odds(Strike(2, 6), About(3, 4, 5), About(2, 3, 4), About(4, 5, 6))
        self.at_odds(Strike(2, 6), Carry(3, 5, 9), Carry(2, 3, 0), Carry(5, 6, 7))
        self.at_peace(Strike(2, 6), Strike(0, 2), Strike(6, 7), About(6, 7, 8), Carry(6, 7, 8), Carry(0, 2, 8))

    def test_a_strike_lies_in_another_span(self):
        self.at_peace(Strike(3, 5), Carry(2, 6, 8), Carry(3, 6, 8), Carry(2, 5, 0), About(2, 6, 7), About(1, 3, 5))

    def test_a_spot_lies_in_the_span_of_a_strike(self):
        self.at_odds(Strike(2, 6), Put(3, "a"), Put(4, "a"), Put(5, "a"))
        self.at_odds(Strike(2, 6), Carry(8, 9, 3), Carry(0, 1, 5), Carry(7, 9, 4))
        self.at_peace(Strike(2, 6), Put(0, "a"), Put(1, "a"), Put(2, "a"), Put(6, "a"), Put(7, "a"))
        self.at_peace(Strike(2, 6), Carry(8, 9, 2), Carry(0, 1, 6), Carry(8, 9, 7), Carry(0, 1, 2))
        self.at_peace(Strike(2, 3), Put(2, "a"), Put(3, "a"))
        self.at_peace(Put(4, "a"), Carry(2, 6, 8), About(2, 3, 6))

    def test_a_spot_is_the_middle_of_an_about(self):
        self.at_odds(About(2, 4, 6), Put(4, "a"), Carry(8, 9, 4), Carry(0, 1, 4), Carry(2, 3, 4), Carry(5, 6, 4))
        self.at_odds(About(0, 1, 2), Put(1, "a"))
        self.at_peace(About(2, 4, 6), Put(1, "a"), Put(2, "a"), Put(3, "a"), Put(5, "a"), Put(6, "a"), Put(7, "a"))
        self.at_peace(About(2, 4, 6), Carry(8, 9, 2), Carry(8, 9, 6), Carry(0, 1, 2), Carry(0, 1, 6))
        self.at_peace(About(0, 1, 2), Put(0, "a"), Put(2, "a"))

    def test_a_span_lies_in_that_of_an_about_but_in_no_room(self):
        self.at_odds(About(2, 4, 7), Strike(3, 5), Strike(2, 5), Strike(3, 7), Strike(3, 6))
        self.at_odds(About(2, 4, 7), About(3, 4, 5), About(3, 5, 6), Carry(3, 5, 9), Carry(2, 5, 0))
        self.at_peace(About(2, 4, 7), Strike(2, 4), Strike(4, 7), Strike(2, 3), Strike(3, 4), Strike(4, 5))
        self.at_peace(About(2, 4, 7), About(2, 3, 4), About(4, 5, 7), Carry(2, 4, 9), Carry(4, 7, 0))

    def test_an_about_lies_in_another_span(self):
        self.at_peace(About(2, 4, 6), Carry(1, 7, 9), Carry(2, 7, 0), About(1, 2, 6), About(2, 6, 7))

    def test_a_carry_comes_into_a_room_from_outside(self):
        self.at_odds(About(2, 5, 8), Carry(9, 10, 3), Carry(0, 1, 4), Carry(0, 2, 6), Carry(8, 9, 7))
        self.at_odds(About(2, 5, 8), Carry(2, 3, 6), Carry(3, 5, 7), Carry(6, 7, 4), Carry(5, 6, 3))
        self.at_odds(Carry(2, 6, 0), Carry(8, 9, 3), Carry(8, 9, 5), Carry(0, 1, 4), Carry(6, 7, 4))
        self.at_odds(Carry(2, 6, 0), Carry(6, 8, 3))
        self.at_odds(Carry(2, 5, 8), Carry(7, 10, 3))
        self.at_peace(About(2, 5, 8), Carry(9, 10, 2), Carry(0, 1, 8), Carry(9, 10, 8), Carry(0, 1, 9))
        self.at_peace(Carry(2, 6, 0), Carry(8, 9, 2), Carry(8, 9, 6), Carry(0, 1, 2), Carry(0, 1, 6))

    def test_a_carry_stays_in_a_room(self):
        self.at_peace(About(2, 6, 10), Carry(2, 3, 4), Carry(4, 6, 3), Carry(6, 7, 9), Carry(8, 10, 7))
        self.at_peace(Carry(2, 6, 0), Carry(3, 4, 5), Carry(2, 3, 5), Carry(5, 6, 3))

    def test_a_carry_goes_out_of_a_room(self):
        self.at_peace(About(2, 5, 8), Carry(3, 4, 9), Carry(3, 4, 0), Carry(6, 7, 8), Carry(6, 7, 2), Carry(3, 4, 8))
        self.at_peace(Carry(2, 6, 0), Carry(3, 4, 1), Carry(3, 4, 2), Carry(3, 4, 6), Carry(3, 4, 9))

    def test_a_put_may_come_into_a_room(self):
        self.at_peace(About(2, 5, 8), Put(3, "a"), Put(4, "a"), Put(6, "a"), Put(7, "a"))
        self.at_peace(Carry(2, 6, 0), Put(2, "a"), Put(3, "a"), Put(5, "a"), Put(6, "a"))


def parts_of(told):
    """The span, the spot's neighbours and the rooms, all as sets of signs, of a told mark."""
    word, *fields = told
    if word == "put":
        return set(), {fields[0] - 1, fields[0]}, []
    begin, end = fields[0], fields[2] if word == "about" else fields[1]
    span = set(range(begin, end))
    if word == "strike":
        return span, None, []
    if word == "about":
        return span, None, [set(range(begin, fields[1])), set(range(fields[1], end))]
    return span, {fields[2] - 1, fields[2]}, [span]


def by_sets(one, other):
    """Whether told marks quarrel as 3 says, told anew with sets of signs."""
    span, spot, _ = parts_of(one)
    span_too, spot_too, _ = parts_of(other)
    if spot is not None and spot == spot_too:
        return True
    if span & span_too and (span == span_too or not (span < span_too or span_too < span)):
        return True
    for first, second in ((one, other), (other, one)):
        span, _, rooms = parts_of(first)
        inner, spot, _ = parts_of(second)
        if first[0] == "strike" and (inner and inner <= span or spot and spot <= span):
            return True
        if first[0] == "about" and spot == {first[2] - 1, first[2]}:
            return True
        if first[0] == "about" and inner and inner <= span and not any(inner <= room for room in rooms):
            return True
        if second[0] == "carry" and any(spot <= room and not inner <= room for room in rooms):
            return True
    return False


class TestAllPairs(unittest.TestCase):
    def test_every_two_marks_on_six_signs(self):
        found = every_mark(6)
        quarrelling = 0
        for one, other in itertools.product(found, repeat=2):
            expected = [(0, 1)] if by_sets(one.told(), other.told()) else []
            self.assertEqual(quarrels([one, other]), expected, (one.told(), other.told()))
            quarrelling += len(expected)
        self.assertEqual(0 < quarrelling < len(found) ** 2, True)

    def test_every_mark_quarrels_with_its_like(self):
        for mark in every_mark(4):
            self.assertEqual(quarrels([mark, mark]), [(0, 1)])
            self.assertEqual(quarrels([mark, mark_of(mark.told())]), [(0, 1)])


class TestMany(unittest.TestCase):
    def test_no_marks_and_one_mark(self):
        self.assertEqual(quarrels([]), [])
        for mark in every_mark(3):
            self.assertEqual(quarrels([mark]), [])

    def test_several_pairs_in_their_order(self):
        marks = [Put(3, "a"), Strike(1, 5), Carry(6, 8, 3), About(0, 1, 2), Put(9, "b")]
        self.assertEqual(quarrels(marks), [(0, 1), (0, 2), (1, 2), (1, 3)])
        marks.reverse()
        self.assertEqual(quarrels(marks), [(1, 3), (2, 3), (2, 4), (3, 4)])

    def test_a_pair_that_quarrels_by_several_clauses_is_told_once(self):
        self.assertEqual(quarrels([Strike(2, 5), Strike(2, 5)]), [(0, 1)])
        self.assertEqual(quarrels([Carry(2, 5, 7), Carry(6, 8, 3)]), [(0, 1)])

    def test_thirty_marks(self):
        self.assertEqual(quarrels([Put(gap, "a") for gap in range(30)]), [])
        self.assertEqual(quarrels([Put(4, "a")] * 30), list(itertools.combinations(range(30), 2)))
        marks = [Strike(gap, gap + 1) for gap in range(29)] + [About(3, 5, 7)]
        self.assertEqual(quarrels(marks), [])
        marks = [Strike(gap, gap + 1) for gap in range(29)] + [Strike(3, 7)]
        self.assertEqual(quarrels(marks), [(3, 29), (4, 29), (5, 29), (6, 29)])

    def test_marks_need_not_fit_a_galley(self):
        self.assertEqual(quarrels([Put(LARGE, "a"), Strike(LARGE - 1, LARGE + 1)]), [(0, 1)])

    def test_what_is_told_is_a_list_of_pairs_of_numbers(self):
        pairs = quarrels([Put(1, "a"), Put(1, "b"), Put(1, "c")])
        self.assertIs(type(pairs), list)
        self.assertEqual(pairs, [(0, 1), (0, 2), (1, 2)])
        for pair in pairs:
            self.assertIs(type(pair), tuple)
            self.assertEqual([type(count) for count in pair], [int, int])

    def test_what_is_told_is_new_and_what_is_handed_in_stays(self):
        one, other = Put(1, "a"), Carry(2, 4, 1)
        marks = [one, other]
        first = quarrels(marks)
        self.assertIsNot(first, quarrels(marks))
        first.clear()
        self.assertEqual(quarrels(marks), [(0, 1)])
        self.assertEqual(len(marks), 2)
        self.assertIs(marks[0], one)
        self.assertIs(marks[1], other)
        self.assertEqual([mark.told() for mark in marks], [("put", 1, "a"), ("carry", 2, 4, 1)])
        marks.append(Put(1, "b"))
        self.assertEqual(quarrels(marks), [(0, 1), (0, 2), (1, 2)])

    def test_marks_are_taken_by_their_name(self):
        self.assertEqual(quarrels(marks=[Put(1, "a"), Put(1, "b")]), [(0, 1)])

    def test_it_is_defined_where_the_interface_lists_it(self):
        self.assertEqual(module.quarrels.__module__, "galleymarks.quarrels")


class TestRefusals(unittest.TestCase):
    def refused(self, marks):
        with self.assertRaises(BadMarks):
            quarrels(marks)

    def test_no_list(self):
        mark = Put(0, "a")
        for wrong in (
            None, True, 0, "", "ab", b"", (), (mark,), {}, {0: mark}, {mark},
            mark, object(), list, iter([mark]),
        ):
            with self.subTest(wrong=wrong):
                self.refused(wrong)

    def test_something_that_is_no_mark(self):
        mark = Put(0, "a")
        for wrong in (None, True, 0, "a", "put", ("put", 0, "a"), [], [mark], {}, object(), Put, Mark()):
            with self.subTest(wrong=wrong):
                self.refused([wrong])
                self.refused([mark, wrong])
                self.refused([wrong, mark])
                self.refused([Put(gap, "a") for gap in range(29)] + [wrong])

    def test_more_than_thirty(self):
        self.refused([Put(gap, "a") for gap in range(31)])
        self.refused([Put(0, "a")] * 31)
        self.refused([None] * 31)


if __name__ == "__main__":
    unittest.main()
