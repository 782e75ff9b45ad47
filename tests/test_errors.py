"""The errors of the interface: their names, their places and what they bear."""

import unittest

from galleymarks import errors

NAMES = (
    "BadGalley", "BadMark", "BadMarks", "BadOrder", "BadHands",
    "BadHand", "BadNumber", "BadSheet", "Quarrel",
)


class TestErrors(unittest.TestCase):
    def test_the_first_error_stands_straight_under_value_error(self):
        self.assertEqual(errors.GalleyError.__bases__, (ValueError,))
        self.assertEqual(errors.GalleyError.__module__, "galleymarks.errors")

    def test_each_other_error_stands_straight_under_the_first_one(self):
        for name in NAMES:
            with self.subTest(name=name):
                kind = getattr(errors, name)
                self.assertEqual(kind.__name__, name)
                self.assertEqual(kind.__bases__, (errors.GalleyError,))
                self.assertEqual(kind.__module__, "galleymarks.errors")

    def test_no_error_is_another_one(self):
        kinds = [getattr(errors, name) for name in NAMES]
        self.assertEqual(len(set(kinds)), len(NAMES))

    def test_each_can_be_raised_and_caught_as_the_first_one(self):
        for name in NAMES:
            kind = getattr(errors, name)
            if name == "BadSheet":
                made = kind(0)
            elif name == "Quarrel":
                made = kind(0, 1)
            else:
                made = kind("why")
            for caught in (kind, errors.GalleyError, ValueError):
                with self.subTest(name=name, caught=caught):
                    with self.assertRaises(caught) as told:
                        raise made
                    self.assertIs(told.exception, made)

    def test_a_bad_sheet_bears_its_row(self):
        self.assertEqual(errors.BadSheet(0).row, 0)
        self.assertEqual(errors.BadSheet(7).row, 7)
        self.assertEqual(errors.BadSheet(row=3).row, 3)

    def test_a_quarrel_bears_its_pair(self):
        quarrel = errors.Quarrel(2, 5)
        self.assertEqual((quarrel.one, quarrel.other), (2, 5))
        quarrel = errors.Quarrel(other=4, one=0)
        self.assertEqual((quarrel.one, quarrel.other), (0, 4))


if __name__ == "__main__":
    unittest.main()
