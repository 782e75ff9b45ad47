"""Promise 1 over the whole program, and the whole way from a sheet to the cheapest marks."""

import itertools
import unittest

from galleymarks.answers import Cheapest
from galleymarks.cheapest import cheapest, price
from galleymarks.errors import (
    BadGalley, BadHand, BadHands, BadMark, BadMarks, BadNumber, BadOrder, BadSheet, GalleyError, Quarrel,
)
from galleymarks.marks import About, Carry, Mark, Put, Strike, mark_of
from galleymarks.mending import mended, origins
from galleymarks.orders import later, one_by_one
from galleymarks.papers import read, written
from galleymarks.quarrels import quarrels
from galleymarks.sheets import Sheet
from tests.helpers import Dice, done, tolds


class Odd:
    """A thing that says of itself that it is like anything, and has a place for everything."""

    def __eq__(self, other):
        return True

    def __hash__(self):
        return 0

    def __len__(self):
        return 1

    def __iter__(self):
        return iter(["a"])

    def __getitem__(self, at):
        return "a"

    def __lt__(self, other):
        return True

    __gt__ = __le__ = __ge__ = __lt__

    def __index__(self):
        return 0

    def __str__(self):
        return "a"

    def span(self):
        return 0, 1

    def spot(self):
        return 0

    def fits(self, galley):
        return True


class Plain:
    """A thing with nothing of its own."""


KINDS = (
    None, True, False, 0, 1, -1, 10 ** 5000, "", "a", "ab", "ab\n", "A", "\ud800", "b" * 81, b"", b"a", [], [0], ["a"], [None], [[]],
    [Put(0, "a")], (), (0,), ("a",), ("put", 0, "a"), {}, {0: "a"}, {"galley": "ab"}, set(), {"a"}, frozenset({"a"}), range(2),
    iter("a"), object(), Odd(), Plain(), Mark(), Strike(0, 1), Carry(1, 2, 0), Cheapest([], [[0]]), Strike, Odd, str, len, Ellipsis,
)


def wrong_of(*right):
    """The kinds but for those of these classes; True and False are no numbers."""
    return [kind for kind in KINDS if not isinstance(kind, right) or isinstance(kind, bool)]


NUMBERS = [*wrong_of(int), -1, -(10 ** 5000)]
GALLEYS = [*wrong_of(str), "A", "\ud800", "b" * 81]
NO_MARK = wrong_of(Strike, Put, About, Carry)
MARKS = [*wrong_of(list), *[[kind] for kind in NO_MARK], [Strike(0, 1), None]]
FITTING = [*MARKS, [Strike(0, 9)]]
ORDERS = [*wrong_of(list), *[[kind, 1] for kind in wrong_of(int)], [], [0], [0, 0], [1, 2], [-1, 0], [0, 1, 2], [0, 10 ** 5000]]
HANDS = [*wrong_of(str), "", "A", "aa", "abcde", "\ud800"]
HAND = [*wrong_of(str), "", "A", "c", "ab", "\ud800"]
ANY_HAND = [kind for kind in HAND if kind is not None]
TEXTS = [*wrong_of(str), "", "A", "a" * 21, "\ud800"]
TOLDS = [*wrong_of(tuple), (), (0,), ("a",), ("put",), ("put", 0), ("put", 0, "a", "a"), ("strike", 0, True), (Odd(), 0, 1)]
SHORT = [*GALLEYS, "b" * 17]


def asked(sheet):
    """What is asked with each argument's right value, wrong ones and refusal, in the turn of the refusals."""
    marks = [Put(0, "x"), Strike(0, 1)]
    galley = ("galley", "ab", GALLEYS, BadGalley)
    both = galley, ("marks", marks, FITTING, BadMarks)
    number = ("number", 0, [*NUMBERS, 2], BadNumber)
    yield Strike, [("begin", 0, NUMBERS, BadMark), ("end", 1, [*NUMBERS, 0], BadMark)]
    yield Put, [("gap", 0, NUMBERS, BadMark), ("text", "x", TEXTS, BadMark)]
    yield About, [("begin", 0, NUMBERS, BadMark), ("middle", 1, [*NUMBERS, 0], BadMark), ("end", 2, [*NUMBERS, 0, 1], BadMark)]
    yield Carry, [("begin", 1, NUMBERS, BadMark), ("end", 2, [*NUMBERS, 1], BadMark), ("gap", 0, [*NUMBERS, 1, 2], BadMark)]
    for mark in (Strike(0, 1), Put(0, "a"), About(0, 1, 2), Carry(0, 1, 2)):
        yield mark.fits, [galley]
    yield mark_of, [("told", ("strike", 0, 1), TOLDS, BadMark)]
    yield quarrels, [("marks", marks, MARKS, BadMarks)]
    for function in (mended, origins, written):
        yield function, both
    yield later, [*both, ("mark", Put(1, "y"), [*NO_MARK, Put(3, "y")], BadMark)]
    yield one_by_one, [*both, ("order", [1, 0], ORDERS, BadOrder)]
    yield Sheet, [galley, ("hands", "xy", HANDS, BadHands)]
    yield sheet.mark, [("mark", Put(1, "y"), [*NO_MARK, Put(3, "y")], BadMark), ("hand", "b", HAND, BadHand)]
    yield sheet.stand, [(*number[:2], [*number[2], 1], BadNumber)]
    yield sheet.again, [("number", 1, [*number[2], 0], BadNumber)]
    yield sheet.made, [number]
    for method in (sheet.living, sheet.quarrelling, sheet.clean):
        yield method, [("hand", "b", ANY_HAND, BadHand)]
    yield read, [("text", "a^b / put x", [*wrong_of(str), "A", "\ud800", "b" * 81], BadSheet)]
    yield price, [("mark", Strike(0, 1), [*NO_MARK, Carry(0, 1, 2)], BadMark)]
    yield cheapest, [("one", "ab", SHORT, BadGalley), ("other", "ba", SHORT, BadGalley)]


def new_sheet():
    sheet = Sheet("ab")
    sheet.mark(Put(0, "x"))
    sheet.mark(Strike(0, 1), "b")
    sheet.stand(1)
    return sheet


def state(sheet):
    return [
        sheet.living(), sheet.living("a"), sheet.living("b"), sheet.quarrelling(), sheet.clean(), sheet.clean("a"), sheet.clean("b"),
        sheet.made(0), sheet.made(1),
    ]


def shown(told):
    """What is told, of marks and answers what they tell."""
    if isinstance(told, (list, tuple)):
        return [shown(each) for each in told]
    if isinstance(told, Cheapest):
        return [shown(told.marks), shown(told.heights)]
    return told.told() if isinstance(told, (Strike, Put, About, Carry)) else told


class TestRefusals(unittest.TestCase):
    def setUp(self):
        self.sheet = new_sheet()

    def refused(self, kind, function, handed):
        """That it is refused so, by place and by name, and nothing is changed."""
        kept = {name: list(value) for name, value in handed.items() if isinstance(value, list)}
        for call in (lambda: function(*handed.values()), lambda: function(**handed)):
            with self.assertRaises(GalleyError) as caught:
                call()
            self.assertIs(type(caught.exception), kind)
        for name, value in kept.items():
            self.assertEqual([id(each) for each in handed[name]], [id(each) for each in value])

    def test_whatever_is_handed_in(self):
        before = state(self.sheet)
        for function, arguments in asked(self.sheet):
            for name, _, wrongs, kind in arguments:
                for wrong in wrongs:
                    handed = {each: wrong if each == name else right for each, right, _, _ in arguments}
                    with self.subTest(function=function.__name__, name=name, wrong=wrong.__class__.__name__):
                        self.refused(kind, function, handed)
            self.assertEqual(state(self.sheet), before)

    def test_of_two_what_is_told_first(self):
        for function, arguments in asked(self.sheet):
            for one, other in itertools.combinations(arguments, 2):
                for wrong, other_wrong in itertools.product(one[2][::5], other[2][::3]):
                    handed = {each: right for each, right, _, _ in arguments}
                    handed[one[0]], handed[other[0]] = wrong, other_wrong
                    with self.subTest(function=function.__name__, names=(one[0], other[0])):
                        self.refused(one[3], function, handed)
        self.assertEqual(state(self.sheet), state(new_sheet()))

    def test_quarrels_between_the_others(self):
        marks = [Put(0, "x"), Put(0, "y")]
        for function in (mended, origins, written):
            self.refused(Quarrel, function, {"galley": "ab", "marks": marks})
        for mark, kind in ((None, BadMark), (Put(3, "x"), BadMark), (Put(1, "x"), Quarrel)):
            self.refused(kind, later, {"galley": "ab", "marks": marks, "mark": mark})
        for order in (None, [0], [0, 1]):
            self.refused(Quarrel, one_by_one, {"galley": "ab", "marks": marks, "order": order})
        self.sheet.mark(Put(0, "y"))
        self.refused(Quarrel, self.sheet.clean, {"hand": None})
        self.refused(Quarrel, self.sheet.clean, {"hand": "a"})
        self.refused(BadHand, self.sheet.clean, {"hand": "c"})
        self.assertEqual(self.sheet.clean("b"), "ab")

    def test_the_rows_of_bad_sheets(self):
        for wrong in KINDS:
            if not isinstance(wrong, str):
                with self.assertRaises(BadSheet) as caught:
                    read(wrong)
                self.assertEqual(caught.exception.row, 0)


class TestRightOnes(unittest.TestCase):
    def test_by_places_and_by_names(self):
        for count, (_, arguments) in enumerate(asked(new_sheet())):
            handed = {name: right for name, right, _, _ in arguments}
            by_place = list(asked(new_sheet()))[count][0](*handed.values())
            by_name = list(asked(new_sheet()))[count][0](**dict(reversed(handed.items())))
            if not isinstance(by_place, Sheet):
                self.assertEqual(shown(by_place), shown(by_name))

    def test_answers_by_places_and_by_names(self):
        self.assertIs(Cheapest([Put(0, "x")], [[0, 3]]).shows("", "x"), True)
        self.assertIs(Cheapest(heights=[[0, 3]], marks=[Put(0, "x")]).shows(other="x", one=""), True)

    def test_what_is_told_is_new_and_what_is_handed_in_stays(self):
        for function, arguments in asked(new_sheet()):
            handed = {name: right for name, right, _, _ in arguments}
            if function.__name__ in ("mark", "stand", "again", "Sheet"):
                continue
            before = shown(list(handed.values()))
            told = function(**handed)
            first = shown(told)
            for part in parts_of(told):
                part.clear()
            self.assertEqual(shown(list(handed.values())), before)
            self.assertEqual(shown(function(**handed)), first, function.__name__)

    def test_lists_changed_behind_the_call(self):
        marks, order, heights = [Put(0, "x"), Carry(1, 2, 0)], [1, 0], [[0, 3], [3, 0]]
        marks[0] = Put(2, "x")
        told = [
            mended("ab", marks), origins("ab", marks), one_by_one("ab", marks, order), quarrels(marks), written("ab", marks),
            later("ab", marks, Put(1, "y")), Cheapest(marks, heights),
        ]
        before = shown(told)
        marks.clear()
        order.clear()
        heights[0].clear()
        heights.clear()
        self.assertEqual(shown(told), before)

    def test_marks_are_kept_and_nobody_changes_them(self):
        mark = Carry(0, 1, 2)
        sheet = Sheet("abc")
        sheet.mark(mark)
        answer = Cheapest([mark], [[0]])
        for text in (mended("abc", [mark]), sheet.clean(), written("abc", [mark])):
            self.assertIn("b", text)
        one_by_one("abc", [mark, Strike(2, 3)], [1, 0])
        later("abc", [mark], Put(1, "x"))
        self.assertEqual(mark.told(), ("carry", 0, 1, 2))
        self.assertIs(answer.marks[0], mark)

    def test_numbers_are_whole_ones(self):
        self.assertEqual({type(place) for pair in quarrels([Put(0, "x")] * 3) for place in pair}, {int})
        self.assertIs(type(price(Strike(0, 1))), int)
        self.assertEqual({type(height) for row in cheapest("ab", "ba").heights for height in row}, {int})
        with self.assertRaises(BadSheet) as caught:
            read("a\nA")
        self.assertIs(type(caught.exception.row), int)


def parts_of(told):
    """The lists in what is told, the inner ones first."""
    if isinstance(told, Cheapest):
        return parts_of(told.heights) + parts_of(told.marks)
    if isinstance(told, (list, tuple)):
        inner = [part for each in told for part in parts_of(each)]
        return inner + ([told] if isinstance(told, list) else [])
    return []


class TestTheWholeWay(unittest.TestCase):
    def test_two_hands(self):
        sheet = Sheet("a fox the quick\njumps dog, lazy the over.")
        for hand, mark in (
            ("a", About(2, 6, 16)),        # the quick\nfox
            ("b", Put(5, "es")),
            ("a", Carry(22, 25, 40)),
            ("b", Strike(0, 2)),
            ("a", Strike(0, 1)),
            ("b", Carry(37, 40, 25)),
            ("b", Put(16, "often ")),
        ):
            sheet.mark(mark, hand)
        self.assertEqual(sheet.quarrelling(), [(3, 4)])
        with self.assertRaises(Quarrel):
            sheet.clean()
        sheet.stand(4)
        sheet.stand(5)
        self.assertEqual((sheet.living(), sheet.living("a"), sheet.living("b")), ([0, 1, 2, 3, 6], [0, 2], [1, 3, 6]))
        self.assertEqual(sheet.clean(), "the quick\nfoxes often jumps , lazy the overdog.")
        self.assertEqual(sheet.clean("a"), "a the quick\nfox jumps , lazy the overdog.")
        self.whole_way(sheet, "a fox the quick\njumps dog, lazy the over.")

    def whole_way(self, sheet, galley):
        """From the sheet's marks that count to what the first hand's leave of the other's, and to paper."""
        marks = [mark_of(sheet.made(number)[1]) for number in sheet.living()]
        firsts = [mark_of(sheet.made(number)[1]) for number in sheet.living("a")]
        others = [mark_of(sheet.made(number)[1]) for number in sheet.living("b")]
        text = sheet.clean("a")
        self.assertEqual(text, mended(galley, firsts))
        for count, mark in enumerate(others):
            text = done(text, later(galley, firsts + others[:count], mark))
        self.assertEqual(text, sheet.clean())
        text = galley
        for mark in one_by_one(galley, others + firsts, list(range(len(marks)))):
            text = done(text, mark)
        self.assertEqual(text, sheet.clean())
        paper = written(galley, marks)
        galley_read, marks_read = read(paper)
        self.assertEqual((galley_read, sorted(tolds(marks_read))), (galley, sorted(tolds(marks))))
        self.assertEqual(written(galley_read, marks_read), paper)
        self.assertEqual(mended(galley_read, marks_read), sheet.clean())

    def test_written_as_it_stands(self):
        sheet = Sheet("ab\ncd", "xy")
        sheet.mark(Carry(3, 5, 0), "y")
        sheet.mark(Put(1, "q\n"), "x")
        sheet.mark(Strike(0, 2), "y")
        sheet.stand(2)
        marks = [mark_of(sheet.made(number)[1]) for number in sheet.living()]
        self.assertEqual(written("ab\ncd", marks), "^a^b / here 1 / put q;\n<cd> / carry 1")
        self.assertEqual(sheet.clean(), "cdaq\nb\n")

    def test_the_cheapest_are_no_dearer(self):
        sheet = Sheet("the dog, the fox")
        for hand, mark in (("a", Strike(3, 7)), ("b", Put(16, "y")), ("a", Put(9, "a ")), ("b", Strike(7, 8))):
            sheet.mark(mark, hand)
        self.no_dearer(sheet, "the dog, the fox")
        sheet.stand(1)
        sheet.stand(3)
        self.no_dearer(sheet, "the dog, the fox")
        self.assertEqual(sheet.clean(), "the, a the fox")

    def no_dearer(self, sheet, galley):
        marks = [mark_of(sheet.made(number)[1]) for number in sheet.living()]
        told = cheapest(galley, sheet.clean())
        self.assertLessEqual(sum(map(price, told.marks)), sum(map(price, marks)))
        self.assertEqual(mended(galley, told.marks), sheet.clean())
        self.assertTrue(told.shows(galley, sheet.clean()))
        galley_read, marks_read = read(written(galley, told.marks))
        self.assertEqual(mended(galley_read, marks_read), sheet.clean())
        self.assertTrue(Cheapest(marks_read, told.heights).shows(galley, sheet.clean()))

    def test_many_sheets(self):
        dice = Dice(53)
        for _ in range(40):
            size = 2 + dice.below(60)
            galley = "".join("abcde,. \n"[dice.below(9)] for _ in range(size))
            sheet = Sheet(galley)
            for mark in dice.peaceful(size, 20, 30):
                sheet.mark(mark, "ab"[dice.below(2)])
            for number in sheet.living():
                if dice.below(3) == 0:
                    sheet.stand(number)
            self.whole_way(sheet, galley)

    def test_the_cheapest_of_many_sheets(self):
        dice = Dice(59)
        for _ in range(40):
            size = 2 + dice.below(9)
            galley = "".join("abc\n"[dice.below(4)] for _ in range(size))
            sheet = Sheet(galley)
            for mark in dice.peaceful(size, 8, 8):
                if isinstance(mark, (Strike, Put)):
                    number = sheet.mark(mark)
                    if len(sheet.clean()) > 16:
                        sheet.stand(number)
            self.no_dearer(sheet, galley)


if __name__ == "__main__":
    unittest.main()
