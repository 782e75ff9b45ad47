"""Promise 10: what is read of written sheets, and the row that is wrong of what isn't one."""

import itertools
import unittest

from galleymarks import papers
from galleymarks.errors import BadSheet
from galleymarks.marks import About, Carry, Put, Strike
from galleymarks.papers import read, written
from galleymarks.quarrels import quarrels
from tests.helpers import Dice, every_mark, tolds
from tests.paper_helpers import in_turn_of_signs, paper_by_events, read_by_patterns

EIGHTY = "abcdefghijklmnopqrstuvwxyz .,\n" * 2 + "abcdefghijklmnopqrst"
NO_TEXTS = (None, True, 0, 7, b"", b"ab", [], ["ab"], (), ("ab",), {}, {"ab"}, object(), str, iter("ab"))

# Rows that are right by themselves, ahead of a wrong one and behind it; no span goes on behind them.
RIGHT_ROWS = ("", "a b, c.", "<a>^b<c|d>^ / strike / put x; y / about / put  ")

# Rows that are wrong by themselves wherever they stand among these.
STRANGE_SIGNS = (
    "A", "aB", "a0", "a;b", "a/b", "/", "ab/", "ab /", "a-b", "a_b", "a\tb", "a\r", "\r", "\x00", "\x0b", "a\x85",
    "\u00e4", "a\u2028b", "\ud800", "\\", "<a} / strike", "<A> / strike", "v^\u0301 / put x",
)
OUT_OF_TURN = (
    "<>a / strike", "<a<>b> / strike / strike", "a<> / strike", "<^a> / strike / put x", "^<^a> / put x / strike / put y",
    "<a^> / strike / put x", "<a^|b> / about / put x", "<|a> / about", "<a|>b / about", "<a<|b>c> / about / strike",
    "<a|b^>c / about / put x", "<a><>b / strike / strike", "<a<b>|>c / about / strike", "<a|<>b> / about / strike",
)
TWICE = (
    "^^a / put x / put y", "a^^ / put x / put y", "a^^b / put x / here 9", "<a||b> / about", "<a||b|c> / about",
    "<a><b^^c> / strike / strike / put x / put y",
)
NO_SPAN = (
    ">", ">a", "a>", "a>b", "<a>> / strike", "<a>b> / strike", "<a<b>>c> / strike / strike", "|", "|a", "a|", "a|b",
    "<a>| / about", "<a|b>c| / about", "<a>|b / strike", "<a>b|c / carry 1", ">>", ">|", "a><b> / strike",
)
ABOUTS = (
    "<a> / about", "<ab>c / about", "<a<b|c>d> / about / about", "<a<b>c> / about / strike", "<a<b>|c> / strike / about",
    "<a|b> / strike", "<a|b> / carry 1", "<a<b|c>d> / about / strike", "<a|b<c|d>> / about / strike",
    "<a|b|c> / about", "<a|<b>|c> / about / strike", "<a|<b|c>|d> / about / about",
)
ENTRIES = (
    "<a>", "^", "a^b", "<a>^ / strike", "<a>^ / put x", "<a><b> / strike", "<a|b>", "a / ", " / ", " / strike",
    "ab / strike", "ab / put x", "a / here 1", "<a> / strike / strike", "<a> / strike / ", "<a> /  / strike", "<a> / ",
    "^ / put x / put y", "^ / here 1 / put x", "^<a> / strike / put x", "<a>^ / put x / strike", "^^ / put x",
    "<a> / put x", "<a> / here 1", "^ / strike", "^ / about", "^ / carry 1", "^ / put", "^ / put ", "^ / put  / put x",
    "^ / putx", "^ / put x / ", "^ / put X", "^ / put x0", "^ / put x/y", "^ / put <", "^ / put x\ty", "^ / put \u00e4",
    "^ / put ;" + "x" * 20, "^ / put " + "x" * 21, "^ / put " + " " * 21, "^ / Put x", "^ /  put x", "^ / ;put x",
    "<a>/ strike", "<a> /strike", "<a>/strike", "<a>  /  strike", "<a> / strike ", "<a> /  strike", "<a> / Strike",
    "<a> / strikes", "<a> / strike 1", "<a> / ", "<a|b> / about 1", "<a|b> / abou", "<a|b> / abouts", "<a> / strike;",
)
NUMBERS = (
    "", " ", "0", "00", "01", "001", "x", "a1", "1a", "1 ", " 1", "1.", "1,2", "-1", "+1", "1_0", "1e1", "\u0661", "\u00b9",
    "0x1", "one", "1;", "10 0", "\uff11", "1\u0661",
)
NO_NUMBERS = tuple(
    f"{line} / {word}{blank}{number}"
    for line, word in (("<a>", "carry"), ("^a", "here"))
    for blank, number in [("", ""), ("", "1"), ("  ", "1"), *[(" ", number) for number in NUMBERS]]
)
CARRIES_OUT_OF_COUNT = (
    "<a> / carry 2", "<a> / carry 10", "<a><b> / carry 1 / carry 1", "<a><b> / carry 2 / carry 1",
    "<a><b> / carry 1 / carry 3", "<<a>b> / carry 2 / carry 1", "<a> / carry 1" + "0" * 5000,
    "<a><b> / strike / carry 2", "^a^b / here 1 / here 1", "<a>b^c^ / carry 1 / here 1 / here 1",
    "^a^b^ / here 3 / put x / here 3", "^a^ / here 1{0} / here 1{0}".format("0" * 5000),
)
WRONG_ROWS = (
    *STRANGE_SIGNS, *OUT_OF_TURN, *TWICE, *NO_SPAN, *ABOUTS, *ENTRIES, *NO_NUMBERS, *CARRIES_OUT_OF_COUNT,
    "a" * 81, "a" * 100, " " * 81, "." * 500, "^".join("a" * 82) + " / put x" * 81,
)


class Reads(unittest.TestCase):
    def check(self, text, galley, *marks):
        """That the galley and marks that tell this are read, and the same is written again."""
        with self.subTest(text=text[:80]):
            told = read(text)
            self.assertEqual((type(told), len(told), type(told[1])), (tuple, 2, list))
            self.assertEqual((told[0], tolds(told[1])), (galley, list(marks)))
            self.assertEqual(read_by_patterns(text), (galley, list(marks)))
            self.assertEqual(written(*told), text)

    def refused(self, text, row):
        with self.subTest(text=text[:160] if isinstance(text, str) else text.__class__.__name__, row=row):
            with self.assertRaises(BadSheet) as caught:
                read(text)
            self.assertIs(type(caught.exception), BadSheet)
            self.assertEqual(caught.exception.row, row)
            self.assertIs(type(caught.exception.row), int)
            if isinstance(text, str):
                self.assertEqual(read_by_patterns(text), row)


class TestRead(Reads):
    def test_no_marks(self):
        for text in ("", "a", " ", "a ", "ab\ncd", "\n", "\n\n", "a\n", "\na", ", .\n ", EIGHTY):
            self.check(text, text)

    def test_each_kind(self):
        self.check("a<b>c / strike", "abc", ("strike", 1, 2))
        self.check("ab^c / put x y,", "abc", ("put", 2, "x y,"))
        self.check("^ / put " + "x" * 20, "", ("put", 0, "x" * 20))
        self.check("<a|bc> / about", "abc", ("about", 0, 1, 3))
        self.check("<a>b^c / carry 1 / here 1", "abc", ("carry", 0, 1, 2))
        self.check("^a<b>c / here 1 / carry 1", "abc", ("carry", 1, 2, 0))

    def test_the_turn_of_the_marks(self):
        text = "^<a>^b<c>^d<e>f / here 3 / carry 1 / here 2 / carry 2 / here 1 / carry 3"
        self.check(text, "abcdef", ("carry", 0, 1, 3), ("carry", 2, 3, 1), ("carry", 4, 5, 0))
        text = "^<a|<b>>^<<c>d> / here 1 / about / strike / put x / carry 1 / strike"
        self.check(text, "abcd", ("about", 0, 1, 2), ("strike", 1, 2), ("put", 2, "x"), ("carry", 2, 4, 0), ("strike", 2, 3))
        text = "^a<b> / put y / carry 1\n<c|d^e> / about / put x\n^ / here 1"
        self.check(text, "ab\ncde\n", ("put", 0, "y"), ("carry", 1, 2, 7), ("about", 3, 4, 6), ("put", 5, "x"))

    def test_rows(self):
        self.check("a<b / strike\nc>d", "ab\ncd", ("strike", 1, 4))
        self.check("ab< / strike\n>", "ab\n", ("strike", 2, 3))
        self.check("<ab| / about\ncd>", "ab\ncd", ("about", 0, 2, 5))
        self.check("<ab / about\n|cd>", "ab\ncd", ("about", 0, 3, 5))
        self.check("< / about\n|\n>", "\n\n", ("about", 0, 1, 2))
        self.check("^ / put x\n^ / put y", "\n", ("put", 0, "x"), ("put", 1, "y"))
        self.check("^ / here 1\n\n< / carry 1\n>", "\n\n\n", ("carry", 2, 3, 0))

    def test_puts(self):
        self.check("a^b / put x;y", "ab", ("put", 1, "x\ny"))
        self.check("^a^b^ / put   / put   x   / put  ", "ab", ("put", 0, " "), ("put", 1, "  x  "), ("put", 2, " "))
        for text in ("put x", "strike", " here ", "carry ", "about", ";put "):
            self.check(f"a^<b> / put {text} / strike", "ab", ("put", 1, text.replace(";", "\n")), ("strike", 1, 2))

    def test_the_most(self):
        self.check("a" * 80, "a" * 80)
        self.check("\n" * 80, "\n" * 80)
        self.check("a" * 40 + "\n" + "a" * 39, "a" * 40 + "\n" + "a" * 39)
        self.check("a" * 79 + "\n", "a" * 79 + "\n")
        puts = [("put", gap, "x") for gap in range(30)]
        self.check("^a" * 30 + " / put x" * 30, "a" * 30, *puts)
        entries = "".join(f" / carry {at} / here {at}" for at in range(1, 27))
        self.check("<a>b^c" * 26 + entries, "abc" * 26, *[("carry", at, at + 1, at + 2) for at in range(0, 78, 3)])
        galley = EIGHTY[:12] + "a" * 12
        row = "<" * 24 + galley[0] + "".join(f">|{sign}" for sign in galley[1:]) + ">" + " / about" * 23 + " / strike"
        abouts = [("about", 0, end - 1, end) for end in range(24, 1, -1)]
        self.check(row, galley, *abouts, ("strike", 0, 1))


class TestReadAll(Reads):
    def same(self, galley, marks):
        text = paper_by_events(galley, marks)
        told_galley, told = read(text)
        self.assertEqual((told_galley, tolds(told)), (galley, tolds(in_turn_of_signs(marks))))
        self.assertEqual(written(told_galley, told), text)

    def test_every_mark_and_every_two_marks(self):
        for galley in ("", "a", "\n", "bc", "b\n", "bcd", "b\nd", "bc\nd", "\nc\n\n"):
            for mark in every_mark(len(galley)):
                self.same(galley, [mark])
            for one, other in itertools.combinations(every_mark(len(galley)), 2):
                if not quarrels([one, other]):
                    self.same(galley, [one, other])

    def test_many_marks(self):
        dice = Dice(37)
        for _ in range(80):
            size = 2 + dice.below(79)
            self.same("".join(dice.shuffled(EIGHTY)[:size]), dice.peaceful(size, 30, 60))


class TestWrongByItself(Reads):
    def test_at_the_first_row_in_the_middle_and_at_the_last(self):
        for wrong in WRONG_ROWS:
            for ahead in range(len(RIGHT_ROWS) + 1):
                self.refused("\n".join([*RIGHT_ROWS[:ahead], wrong, *RIGHT_ROWS[ahead:]]), ahead)
            self.refused(wrong, 0)

    def test_the_right_rows_are_right(self):
        for rows in itertools.permutations(RIGHT_ROWS):
            self.assertEqual(written(*read("\n".join(rows))), "\n".join(rows))

    def test_of_two_wrong_rows_the_first_one(self):
        for at, wrong in enumerate(WRONG_ROWS):
            other = WRONG_ROWS[at - 1]
            self.refused("\n".join([wrong, other]), 0)
            self.refused("\n".join([*RIGHT_ROWS, other, "a", wrong]), 3)

    def test_ahead_of_what_is_wrong_as_a_whole(self):
        for wrong in WRONG_ROWS:
            self.refused("\n".join(["^<a>< / here 7 / strike / strike", "b>^c^ / put x / put y", wrong, ""]), 2)
            self.refused("\n".join(["a" * 9, "^a" * 31 + " / put x" * 31, wrong]), 2)

    def test_signs_of_spans_that_began_in_another_row(self):
        self.refused("<a / strike\n|b>", 1)
        self.refused("<a / carry 1\nb|\nc>^ / here 1", 1)
        self.refused("<a / about\nb>\nc", 1)
        self.refused("<a| / about\nb|c>\n", 1)
        self.refused("<a|b / about\nc\n|d>", 2)
        self.refused("<a / strike\nb>\nc>", 2)
        self.refused("<a<b / about / strike\n|c>d>", 1)
        self.refused("<a<b / about / strike\nc>d>", 1)
        self.refused("<a<b / about / about\n|c>d\n>e", 2)
        self.refused("<a<b / about / about\n|c>d\n|\n>\n>", 4)

    def test_carries_and_heres_in_other_rows(self):
        self.refused("<a> / carry 1\n<b> / carry 1", 1)
        self.refused("<a> / carry 1\n<b> / carry 3\n^ / here 1", 1)
        self.refused("<a> / carry 1\n<b> / strike\n<c> / carry 3", 2)
        self.refused("^a / here 1\nb\n^c / here 1", 2)
        self.refused("^a / here 2\n<b> / carry 1\n^c / here 1\n^ / here 2\n", 3)
        self.refused("^<a> / here 1 / carry 1\n^ / here 1", 1)

    def test_more_than_eighty_signs(self):
        self.refused("a" * 80 + "\n", 1)
        self.refused("a" * 40 + "\n" + "a" * 40, 1)
        self.refused("a" * 40 + "\n" + "a" * 39 + "\n", 2)
        self.refused("a" * 40 + "\n" + "a" * 39 + "\n\n\n", 2)
        self.refused("a" * 20 + "\n" + "a" * 60 + "\n\nb", 1)
        self.refused("\n" * 81, 81)
        self.refused("\n" * 300, 81)
        self.refused("\n" * 81 + "A", 81)
        self.refused("\n" * 80 + "a", 80)
        self.refused("<" + "a" * 40 + " / strike\n>" + "a" * 40, 1)


class TestWrongAsAWhole(Reads):
    def whole(self, text):
        """That it is wrong as a whole, with rows ahead and behind, too."""
        self.refused(text, 1 + text.count("\n"))
        for rows in RIGHT_ROWS, ("", ""), ("ab",):
            self.refused("\n".join([*rows, text]), 1 + text.count("\n") + len(rows))
            self.refused("\n".join([text, *rows]), 1 + text.count("\n") + len(rows))

    def test_spans_that_do_not_end(self):
        for text in (
            "< / strike", "<a / strike", "a< / strike", "<a / about", "<a|b / about", "<a| / about", "<a^ / carry 1 / here 1",
            "^<a / here 1 / carry 1", "<a<b> / strike / strike", "<a|<b> / about / strike", "<a / strike\nb", "< / about\n|",
            "<<a> / about / strike", "<a / carry 1",
        ):
            self.whole(text)

    def test_carries_and_heres_alone(self):
        for text in (
            "<a> / carry 1", "<a><b> / carry 1 / carry 2", "<a>b^ / carry 1 / here 2", "^a / here 1", "^a / here 2", "^ / here 10",
            "^<a>b^ / here 2 / carry 1 / here 1", "<a>b^<c> / carry 1 / here 1 / carry 2", "a\n^ / here 31",
            "^ / here 1" + "0" * 5000, "<a>b^c^ / carry 1 / here 1 / here 9" + "9" * 5000,
        ):
            self.whole(text)

    def test_carries_that_are_none(self):
        for text in (
            "<a^b> / carry 1 / here 1", "^<a> / here 1 / carry 1", "<a>^ / carry 1 / here 1", "<a>^b / carry 1 / here 1",
            "<a^ / carry 1 / here 1\nb>", "<a>b<c>^d^ / carry 1 / carry 2 / here 2 / here 1",
        ):
            self.whole(text)

    def test_marks_that_quarrel(self):
        for text in (
            "<<a>> / strike / strike", "<<a|b>> / strike / about", "<a<b>c> / strike / strike", "<a^b> / strike / put x",
            "<a|^b> / about / put x", "<a<b>^c> / strike / strike / put x", "<a^b>c<d> / carry 1 / here 2 / carry 2",
            "<a|b^c>d<e> / about / here 1 / carry 1", "<a^b|c<d>e> / about / here 1 / carry 1",
            "^a<b^c>d^ / here 1 / carry 1 / here 2 / put x", "<<a>>^b / carry 1 / strike / here 1",
            "<a<b|c>d> / strike / about", "<a^ / strike / put x\nb>",
        ):
            self.whole(text)

    def test_more_than_thirty_marks(self):
        self.refused("^a" * 31 + " / put x" * 31, 1)
        self.refused("a\n" + "<a>" * 31 + " / strike" * 31 + "\n", 3)
        self.refused("^a" * 30 + "<b>" + " / put x" * 30 + " / strike", 1)
        self.refused("<" * 200 + "a" + ">" * 200 + " / strike" * 200, 1)
        entries = "".join(f" / carry {at} / put x / here {at}" for at in range(1, 16))
        marks = [mark for at in range(0, 30, 2) for mark in (("carry", at, at + 1, at + 2), ("put", at + 1, "x"))]
        self.check("<a>^b^" * 15 + entries, "ab" * 15, *marks)
        self.refused("<a>^b^" * 15 + "c^" + entries + " / put x", 1)


class TestAgainstPatterns(Reads):
    def same(self, text):
        """That the same is read, or the same row wrong, as by patterns; what is read is written again."""
        try:
            galley, marks = read(text)
        except BadSheet as why:
            told = why.row
        else:
            told = galley, tolds(marks)
            self.assertEqual(written(galley, marks), text)
        self.assertEqual(told, read_by_patterns(text), text)
        return not isinstance(told, int)

    def test_all_short_lines_with_entries_of_their_signs(self):
        kinds = {"<": ("strike", "about", "carry"), "^": ("put x", "here 1")}
        read_well = 0
        for size in range(6):
            for line in itertools.product("a<>|^", repeat=size):
                for chosen in itertools.product(*[kinds[sign] for sign in line if sign in kinds]):
                    entries = [f"carry {1 + chosen[:at].count('carry')}" if entry == "carry" else entry
                               for at, entry in enumerate(chosen)]
                    read_well += self.same(" / ".join(["".join(line), *entries]))
        self.assertGreater(read_well, 50)

    def test_all_few_short_rows(self):
        for size in range(5):
            for signs in itertools.product("a<>|^\n", repeat=size):
                for word in ("strike", "about"):
                    entries = {"<": f" / {word}", "^": " / put ;"}
                    rows = "".join(signs).split("\n")
                    self.same("\n".join(row + "".join(entries.get(sign, "") for sign in row) for row in rows))

    def test_texts_with_a_few_slips(self):
        dice, read_well = Dice(41), 0
        pieces = (
            *"ab ., \n\n>|^<>|^</;0123A", " / ", " / strike", " / about", " / carry 1", " / carry 2", " / here 1", " / here 2",
            " / put x", "<a>", "a|b", "\n>", "carry", "here", "put ", " 1", " 2", " 3", "",
        )
        for _ in range(4000):
            size = 2 + dice.below(9)
            marks = dice.peaceful(size, 5, 1 + dice.below(8))
            text = paper_by_events("".join(dice.shuffled("abc \n\n.,xyz")[:size]), marks)
            for _ in range(dice.below(3)):
                begin = dice.below(len(text) + 1)
                end = begin + (0, 0, 1, 1, 2, 9)[dice.below(6)]
                text = text[:begin] + pieces[dice.below(len(pieces))] + text[end:]
            read_well += self.same(text)
        self.assertGreater(read_well, 1000)


class TestWhatIsTold(Reads):
    def test_no_text(self):
        for wrong in NO_TEXTS:
            self.refused(wrong, 0)

    def test_it_is_new_each_time(self):
        text = "^a<b> / put x / strike"
        told = read(text)
        told[1].clear()
        self.check(text, "ab", ("put", 0, "x"), ("strike", 1, 2))

    def test_the_marks_are_such_as_others(self):
        _, marks = read("^<a|b>^<c> / here 1 / about / put x / carry 1")
        self.assertEqual([type(mark) for mark in marks], [About, Put, Carry])
        self.assertEqual([type(mark) for mark in read("<a> / strike")[1]], [Strike])
        self.assertEqual((marks[2].begin, marks[2].end, marks[2].gap), (2, 3, 0))

    def test_names(self):
        self.assertEqual(read(text="ab"), ("ab", []))

    def test_it_is_defined_where_the_interface_lists_it(self):
        self.assertEqual(papers.read.__module__, "galleymarks.papers")


if __name__ == "__main__":
    unittest.main()
