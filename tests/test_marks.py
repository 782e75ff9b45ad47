"""Promise 2: the four kinds of marks, their tuples and what they refuse."""

import unittest

from galleymarks import marks
from galleymarks.errors import BadMark
from galleymarks.marks import About, Carry, Mark, Put, Strike, mark_of

LARGE = 10 ** 5000
SIGNS = "abcdefghijklmnopqrstuvwxyz .,\n"
NO_SIGNS = (
    "A", "Z", "0", "9", ";", "\t", "\r", "-", "'", "`", "{", "\x0b", "\x00",
    "\u00e4", "\u0430", "\u2028", "\ud800",
)
NO_NUMBERS = (True, False, None, "1", "", b"1", [], [1], (), (1,), {}, {1}, object(), int, -1, -LARGE)
NO_TEXTS = (None, 1, True, b"a", ["a"], ("a",), {"a": 1}, {"a"}, object(), str)

# A mark, its fields in turn, span, spot, rooms and what it tells.
KINDS = (
    (Strike, ("begin", "end"), (0, 1), (0, 1), None, [], "strike"),
    (Strike, ("begin", "end"), (3, 9), (3, 9), None, [], "strike"),
    (Strike, ("begin", "end"), (LARGE, LARGE + 1), (LARGE, LARGE + 1), None, [], "strike"),
    (Put, ("gap", "text"), (0, "a"), None, 0, [], "put"),
    (Put, ("gap", "text"), (7, "to be, or\nnot"), None, 7, [], "put"),
    (Put, ("gap", "text"), (LARGE, " "), None, LARGE, [], "put"),
    (About, ("begin", "middle", "end"), (0, 1, 2), (0, 2), None, [(0, 1), (1, 2)], "about"),
    (About, ("begin", "middle", "end"), (2, 5, 11), (2, 11), None, [(2, 5), (5, 11)], "about"),
    (About, ("begin", "middle", "end"), (1, 3, LARGE), (1, LARGE), None, [(1, 3), (3, LARGE)], "about"),
    (Carry, ("begin", "end", "gap"), (1, 2, 0), (1, 2), 0, [(1, 2)], "carry"),
    (Carry, ("begin", "end", "gap"), (0, 1, 2), (0, 1), 2, [(0, 1)], "carry"),
    (Carry, ("begin", "end", "gap"), (4, 6, 9), (4, 6), 9, [(4, 6)], "carry"),
    (Carry, ("begin", "end", "gap"), (4, 6, LARGE), (4, 6), LARGE, [(4, 6)], "carry"),
)


class Flatterer:
    """Says that it equals whatever it is asked about."""

    def __eq__(self, other):
        return True


class TestKinds(unittest.TestCase):
    def check(self, mark, fields, values, span, spot, rooms, word):
        for field, value in zip(fields, values):
            self.assertEqual(getattr(mark, field), value)
        self.assertEqual(mark.span(), span)
        self.assertIs(type(mark.span()), type(span))
        self.assertEqual(mark.spot(), spot)
        self.assertEqual(mark.rooms(), rooms)
        self.assertIs(type(mark.rooms()), list)
        for room in mark.rooms():
            self.assertIs(type(room), tuple)
        self.assertEqual(mark.told(), (word,) + values)
        self.assertIs(type(mark.told()), tuple)

    def test_what_each_kind_tells(self):
        for kind, fields, values, span, spot, rooms, word in KINDS:
            with self.subTest(word=word):
                self.check(kind(*values), fields, values, span, spot, rooms, word)

    def test_fields_are_taken_by_their_names(self):
        for kind, fields, values, span, spot, rooms, word in KINDS:
            named = dict(reversed(list(zip(fields, values))))
            with self.subTest(word=word):
                self.check(kind(**named), fields, values, span, spot, rooms, word)

    def test_mark_of_what_is_told_makes_such_a_mark_again(self):
        for kind, fields, values, span, spot, rooms, word in KINDS:
            with self.subTest(word=word):
                told = kind(*values).told()
                for again in (mark_of(told), mark_of(told=told)):
                    self.assertIs(type(again), kind)
                    self.check(again, fields, values, span, spot, rooms, word)
                self.assertEqual(told, (word,) + values)

    def test_each_is_of_its_own_class_and_of_mark_alone(self):
        kinds = (Strike, Put, About, Carry)
        for kind, _, values, _, _, _, word in KINDS:
            for mark in (kind(*values), mark_of((word,) + values)):
                with self.subTest(word=word):
                    self.assertIsInstance(mark, Mark)
                    self.assertEqual([one for one in kinds if isinstance(mark, one)], [kind])
                    self.assertEqual(kind.__bases__, (Mark,))

    def test_each_class_itself_defines_what_the_interface_lists(self):
        for kind in (Mark, Strike, Put, About, Carry):
            self.assertEqual(kind.__module__, "galleymarks.marks")
            for name in ("span", "spot", "rooms", "told", "fits"):
                with self.subTest(kind=kind, name=name):
                    self.assertIn(name, vars(kind))

    def test_rooms_are_a_new_list_each_time(self):
        for kind, _, values, _, _, rooms, word in KINDS:
            with self.subTest(word=word):
                mark = kind(*values)
                first = mark.rooms()
                self.assertIsNot(first, mark.rooms())
                first.append((0, 1))
                del first[0]
                self.assertEqual(mark.rooms(), rooms)
                self.assertEqual(mark.told(), (word,) + values)


class TestNumbers(unittest.TestCase):
    def refused(self, word, *fields):
        """That neither the class nor mark_of takes these fields."""
        kind = {"strike": Strike, "put": Put, "about": About, "carry": Carry}[word]
        with self.subTest(word=word, fields=[type(field) for field in fields]):
            with self.assertRaises(BadMark):
                kind(*fields)
            with self.assertRaises(BadMark):
                mark_of((word,) + fields)

    def test_numbers_that_are_equal_or_fall(self):
        self.refused("strike", 0, 0)
        self.refused("strike", 4, 4)
        self.refused("strike", 5, 4)
        self.refused("strike", LARGE, LARGE)
        self.refused("about", 0, 0, 1)
        self.refused("about", 0, 1, 1)
        self.refused("about", 3, 2, 4)
        self.refused("about", 3, 5, 4)
        self.refused("about", 3, 4, 3)
        self.refused("about", 3, 2, 1)
        self.refused("carry", 0, 0, 5)
        self.refused("carry", 4, 4, 0)
        self.refused("carry", 5, 4, 0)
        self.refused("carry", 5, 4, 9)

    def test_numbers_that_rise_by_one(self):
        self.assertEqual(Strike(6, 7).told(), ("strike", 6, 7))
        self.assertEqual(About(6, 7, 8).told(), ("about", 6, 7, 8))
        self.assertEqual(Carry(6, 7, 8).told(), ("carry", 6, 7, 8))

    def test_the_gap_of_a_carry(self):
        self.assertEqual(Carry(3, 6, 0).spot(), 0)
        self.assertEqual(Carry(3, 6, 2).spot(), 2)
        for gap in (3, 4, 5, 6):
            self.refused("carry", 3, 6, gap)
        self.assertEqual(Carry(3, 6, 7).spot(), 7)
        self.assertEqual(Carry(3, 6, 70).spot(), 70)
        self.refused("carry", 0, 2, 0)

    def test_what_is_no_number(self):
        for wrong in NO_NUMBERS:
            self.refused("strike", wrong, 2)
            self.refused("strike", 0, wrong)
            self.refused("put", wrong, "a")
            self.refused("about", wrong, 2, 3)
            self.refused("about", 0, wrong, 3)
            self.refused("about", 0, 1, wrong)
            self.refused("carry", wrong, 2, 5)
            self.refused("carry", 3, wrong, 9)
            self.refused("carry", 3, 5, wrong)

    def test_truths_that_would_do_as_numbers(self):
        self.refused("strike", False, True)
        self.refused("strike", False, 1)
        self.refused("strike", 0, True)
        self.refused("put", False, "a")
        self.refused("put", True, "a")
        self.refused("about", False, 1, 2)
        self.refused("about", 0, True, 2)
        self.refused("carry", 1, 2, False)
        self.refused("carry", False, True, 3)


class TestTexts(unittest.TestCase):
    def refused(self, text):
        with self.assertRaises(BadMark):
            Put(3, text)
        with self.assertRaises(BadMark):
            mark_of(("put", 3, text))

    def test_lengths(self):
        self.assertEqual(Put(0, "a").text, "a")
        self.assertEqual(Put(0, "a" * 20).text, "a" * 20)
        self.assertEqual(Put(0, "\n" * 20).text, "\n" * 20)
        self.refused("")
        self.refused("a" * 21)
        self.refused("a" * 81)

    def test_each_sign(self):
        for sign in SIGNS:
            with self.subTest(sign=sign):
                self.assertEqual(Put(3, sign).text, sign)
                self.assertEqual(Put(3, "a" + sign + "z").told(), ("put", 3, "a" + sign + "z"))

    def test_what_is_no_sign(self):
        for wrong in NO_SIGNS:
            with self.subTest(wrong=ascii(wrong)):
                self.refused(wrong)
                self.refused("a" + wrong)
                self.refused(wrong + "a")
                self.refused("a" * 19 + wrong)

    def test_what_is_no_text(self):
        for wrong in NO_TEXTS:
            with self.subTest(wrong=wrong):
                self.refused(wrong)


class TestMarkOf(unittest.TestCase):
    def refused(self, told):
        with self.subTest(told=told):
            with self.assertRaises(BadMark):
                mark_of(told)

    def test_what_is_no_tuple(self):
        for told in (None, True, 0, "strike", b"strike", ["strike", 0, 1], {"strike": 1}, object(), tuple):
            self.refused(told)
        self.refused(Strike(0, 1))
        self.refused(Strike)

    def test_another_length(self):
        for told in (
            (), ("strike",), ("put",), ("about",), ("carry",),
            ("strike", 0), ("strike", 0, 1, 2), ("put", 0), ("put", 0, "a", "b"),
            ("about", 0, 1), ("about", 0, 1, 2, 3), ("carry", 0, 1), ("carry", 0, 1, 2, 3),
            (0, 1), (0, 1, 2),
        ):
            self.refused(told)

    def test_another_word(self):
        for word in ("", "Strike", "STRIKE", "strike ", " put", "move", "abouts", "carr", b"strike",
                     None, 0, True, [], ["strike"], ("strike",), {}, Strike, object(), Flatterer()):
            self.refused((word, 1, 2))
            self.refused((word, 1, "a"))
            self.refused((word, 1, 2, 3))
            self.refused((word, 1, 2, 4))

    def test_the_fields_of_another_kind(self):
        self.refused(("strike", 0, "a"))
        self.refused(("put", 0, 1))
        self.refused(("put", "a", 0))
        self.refused(("carry", 0, 1, 1))
        self.refused(("carry", 0, 2, 1))
        self.refused(("about", 0, 2, 1))

    def test_the_names_of_the_module(self):
        self.assertEqual(marks.mark_of.__module__, "galleymarks.marks")


if __name__ == "__main__":
    unittest.main()
