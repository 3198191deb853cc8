"""[17]: edits and papers."""

import copy
import itertools
import random
import unittest

from proseknot import edits
from proseknot.errors import Clash, InvalidEdit

NO_EDITS = (
    None, True, 0, "", "abc", (), [], (0, 0), (0, 0, "", ""), [0, 0, ""], ((0, 0, ""),), [(0, 0, "")],
    (True, 1, ""), (0, True, ""), (False, False, ""), (-1, 0, ""), (-1, -1, ""), (0, -1, ""), (1, 0, ""),
    (10 ** 20, 10 ** 20 - 1, ""), ("0", "0", ""), (None, 0, ""), (0, None, ""), (0, 0, None), (0, 0, 0),
    (0, 0, True), (0, 0, ()), (0, 0, ("a",)), (0, 0, ["a"]), ([0], [0], ""), ((0,), (0,), ""),
    (0, 0, chr(37)), (0, 0, "a" + chr(37)), (0, 0, "\t"), (0, 0, "\r\n"), (0, 0, "\x7f"), (0, 0, "\x1f"),
    (0, 0, "\xe9"), (0, 0, "\u2028"), (0, 0, "a\x00"), (0, [], ""), ([], 0, ""), (0, 0, []),
)

EDITS = ((0, 0, ""), (0, 0, "\n"), (0, 5, "a b"), (3, 3, "~{x}|@\n\n "), (10 ** 30, 10 ** 31, "-"), (7, 8, "$&"))

# Papers of three texts, edits that meet, empty ones beside others.
PAPERS = (
    (),
    (("", 0, 0, ""),),
    (("", 4, 4, "x"), ("a", 0, 1, ""), ("ab", 0, 0, "\n"), ("b", 0, 1, "")),
    (("a", 0, 3, "x"), ("a", 3, 5, "y"), ("a", 5, 5, "z"), ("a", 5, 6, "")),
    (("a", 3, 3, "x"), ("a", 3, 5, "y")),
    (("a", 3, 5, "x"), ("a", 5, 5, "y")),
    (("abcdefgh", 0, 0, ""), ("b", 0, 0, "")),
)

NO_PAPERS = (
    None, 0, True, "", "ab", [], [("a", 0, 0, "")], ("a", 0, 0, ""), ((),), (None,), (0,), ("abcd",),
    ((0, 0, ""),), (["a", 0, 0, ""],), (("a", 0, 0),), (("a", 0, 0, "", ""),), (("a", (0, 0, "")),),
    ((None, 0, 0, ""),), ((0, 0, 0, ""),), (("A", 0, 0, ""),), (("abcdefghi", 0, 0, ""),), (("-", 0, 0, ""),),
    ((("a",), 0, 0, ""),), (([], 0, 0, ""),), (("a", 1, 0, ""),), (("a", True, 1, ""),), (("a", 0, 0, "\t"),),
    (("a", 3, 5, "x"), ("a", 0, 1, "y")), (("b", 0, 1, ""), ("a", 0, 1, "")), (("a", 0, 1, ""), ("", 0, 1, "")),
    (("a", 0, 3, "x"), ("a", 2, 5, "y")), (("a", 0, 5, "x"), ("a", 2, 3, "y")), (("a", 0, 5, "x"), ("a", 2, 2, "y")),
    (("a", 0, 3, "x"), ("a", 0, 3, "x")), (("a", 3, 3, "x"), ("a", 3, 3, "y")), (("a", 0, 0, ""), ("a", 0, 0, "")),
    (("a", 3, 5, "x"), ("a", 3, 3, "y")), (("a", 0, 5, ""), ("a", 0, 6, "")),
    (("a", 0, 1, ""), ("b", 4, 5, ""), ("a", 7, 8, "")), (("a", 0, 1, ""), None), (("a", 0, 1, ""), [("b", 0, 1, "")]),
    (("b", 0, 9, ""), ("ab", 0, 1, "")),
)


def nested(depth):
    """Values that are lists and tuples within one another."""
    value = ""
    for number in range(depth):
        value = [value] if number % 2 else (value,)
    return value


class IsEdit(unittest.TestCase):
    def test_edits(self):
        for value in EDITS:
            self.assertIs(edits.is_edit(value), True, value)

    def test_near_misses(self):
        for value in NO_EDITS + tuple(nested(depth) for depth in range(31)):
            self.assertIs(edits.is_edit(value), False, value)

    def test_each_sign(self):
        for code in range(300):
            expected = code == 10 or (32 <= code <= 126 and code != 37)
            self.assertIs(edits.is_edit((0, 0, "a" + chr(code))), expected, code)


class Edited(unittest.TestCase):
    def test_signs_are_taken_away_for_others(self):
        self.assertEqual(edits.edited("abcdef\n", (1, 3, "XYZ")), "aXYZdef\n")
        self.assertEqual(edits.edited("abc\n", (0, 4, "")), "")
        self.assertEqual(edits.edited("abc\n", (4, 4, "d\n")), "abc\nd\n")
        self.assertEqual(edits.edited("abc\n", (0, 0, "x")), "xabc\n")
        self.assertEqual(edits.edited("", (0, 0, "")), "")
        self.assertEqual(edits.edited("abc\n", (1, 1, "")), "abc\n")

    def test_end_beyond_the_text(self):
        for text, edit in (("", (0, 1, "")), ("", (1, 1, "")), ("abc\n", (0, 5, "")), ("abc\n", (5, 5, "x")),
                           ("abc\n", (4, 10 ** 30, ""))):
            with self.assertRaises(InvalidEdit) as caught:
                edits.edited(text, edit)
            self.assertIs(caught.exception.value, edit)

    def test_values_that_are_no_edits(self):
        for value in NO_EDITS:
            with self.assertRaises(InvalidEdit) as caught:
                edits.edited("abc\n", value)
            self.assertIs(caught.exception.value, value)

    def test_by_name(self):
        self.assertEqual(edits.edited(edit=(0, 1, ""), text="a\n"), "\n")


class IsPaper(unittest.TestCase):
    def test_papers(self):
        for value in PAPERS:
            self.assertIs(edits.is_paper(value), True, value)

    def test_near_misses(self):
        for value in NO_PAPERS + tuple(nested(depth) for depth in range(1, 31)):
            self.assertIs(edits.is_paper(value), False, value)

    def test_single_edits(self):
        for value in EDITS:
            self.assertIs(edits.is_paper((("a",) + value,)), True, value)
            self.assertIs(edits.is_paper((value,)), False, value)
        for value in NO_EDITS:
            if isinstance(value, tuple):
                self.assertIs(edits.is_paper((("a",) + value,)), False, value)

    def test_all_pairs_of_places(self):
        spans = [(start, end) for start in range(4) for end in range(start, 4)]
        for one, other in itertools.product(spans, repeat=2):
            apart = one <= other and one[1] <= other[0] and not one == other
            self.assertIs(edits.is_paper((("a",) + one + ("",), ("a",) + other + ("",))), apart, (one, other))
            self.assertIs(edits.is_paper((("a",) + one + ("",), ("b",) + other + ("",))), True)
            self.assertIs(edits.is_paper((("b",) + one + ("",), ("a",) + other + ("",))), False)

    def test_nothing_is_changed(self):
        value = [("a", 0, 0, ""), ["b", [0], None]]
        kept = copy.deepcopy(value)
        edits.is_paper(value)
        edits.is_paper(tuple(value))
        edits.is_edit(value)
        self.assertEqual(value, kept)


class ChangedBy(unittest.TestCase):
    PAPER = (("", 0, 0, "new "), ("a", 1, 2, "XX"), ("a", 2, 2, "-"), ("a", 2, 4, ""), ("c", 0, 9, ""))

    def test_all_edits_of_each_name_at_once(self):
        texts = (("a", "abcd\n"), ("", "woven\n"), ("b", "same\n"))
        expected = (("a", "aXX-\n"), ("", "new woven\n"), ("b", "same\n"))
        self.assertEqual(edits.changed_by(texts, self.PAPER), expected)
        self.assertEqual(edits.changed_by(list(texts), self.PAPER), expected)

    def test_no_texts_and_no_edits(self):
        self.assertEqual(edits.changed_by((), self.PAPER), ())
        self.assertEqual(edits.changed_by([], ()), ())
        self.assertEqual(edits.changed_by([("a", "x\n")], ()), (("a", "x\n"),))

    def test_an_empty_edit_ahead_of_one_at_its_place(self):
        paper = (("a", 1, 1, "x"), ("a", 1, 2, "y"), ("a", 2, 2, "z"))
        self.assertEqual(edits.changed_by((("a", "abc\n"),), paper), (("a", "axyzc\n"),))

    def test_what_is_returned_is_tuples_and_what_is_handed_in_stays(self):
        texts = [("a", "abcd\n")]
        kept = copy.deepcopy(texts)
        told = edits.changed_by(paper=self.PAPER, texts=texts)
        self.assertIsInstance(told, tuple)
        self.assertIsInstance(told[0], tuple)
        self.assertEqual(texts, kept)

    def test_one_behind_the_other_from_the_last_on(self):
        dice = random.Random(4)
        for _ in range(200):
            text = "".join(dice.choice("abc\n") for _ in range(12))
            marks = sorted(dice.sample(range(13), 6))
            paper = tuple(("a", marks[k], marks[k + 1], "x" * dice.randrange(3)) for k in (0, 2, 4))
            expected = text
            for name, start, end, new in reversed(paper):
                expected = edits.edited(expected, (start, end, new))
            self.assertEqual(edits.changed_by([("a", text)], paper), (("a", expected),))


class Shifted(unittest.TestCase):
    def shifts(self, edit, paper, expected):
        told = edits.shifted(edit, tuple(("a",) + other for other in paper), "a")
        self.assertEqual(told, expected + (edit[2],))

    def clashes(self, edit, *others):
        for other in others:
            with self.assertRaises(Clash) as caught:
                edits.shifted(edit, (("a",) + other,), "a")
            self.assertEqual(caught.exception.reason, "place")

    def test_edits_ahead(self):
        self.shifts((5, 7, "new"), ((0, 2, "abc"),), (6, 8))
        self.shifts((5, 7, ""), ((0, 2, ""), (3, 3, "abcd")), (7, 9))
        self.shifts((5, 5, "n"), ((0, 4, "a"),), (2, 2))

    def test_edits_behind(self):
        self.shifts((5, 7, "new"), ((8, 9, "abc"), (10, 10, "xyz")), (5, 7))
        self.shifts((5, 5, "new"), ((6, 9, ""), (9, 9, "xyz")), (5, 5))

    def test_edits_that_meet(self):
        self.shifts((5, 7, "x"), ((3, 5, ""),), (3, 5))
        self.shifts((5, 7, "x"), ((7, 9, "abcde"),), (5, 7))
        self.shifts((5, 7, "x"), ((2, 5, "a"), (7, 8, "")), (3, 5))

    def test_edits_of_other_texts(self):
        paper = (("", 0, 9, "x"), ("a", 0, 0, "yy"), ("b", 0, 9, "x"))
        self.assertEqual(edits.shifted((3, 4, "z"), paper, "a"), (5, 6, "z"))
        self.assertEqual(edits.shifted((3, 4, "z"), paper, "c"), (3, 4, "z"))
        with self.assertRaises(Clash):
            edits.shifted((3, 4, "z"), paper, "")
        self.assertEqual(edits.shifted((3, 4, "z"), (), "a"), (3, 4, "z"))

    def test_signs_that_are_shared(self):
        self.clashes((5, 8, "x"), (5, 8, "y"), (5, 8, "x"), (4, 6, ""), (7, 9, ""), (0, 20, ""), (6, 7, ""),
                     (5, 6, ""), (7, 8, ""))

    def test_an_empty_edit_within_the_other(self):
        self.clashes((5, 8, "x"), (6, 6, "y"), (7, 7, ""))
        self.clashes((6, 6, "x"), (5, 8, "y"), (5, 7, ""))

    def test_two_empty_ones_at_one_place(self):
        self.clashes((5, 5, "x"), (5, 5, "y"), (5, 5, ""))
        self.shifts((5, 5, "x"), ((4, 4, "y"), (6, 6, "z")), (6, 6))

    def test_an_empty_one_at_an_end_of_the_other(self):
        self.clashes((5, 8, "x"), (5, 5, "y"), (8, 8, "y"), (5, 5, ""), (8, 8, ""))
        self.clashes((5, 5, "x"), (5, 8, "y"), (2, 5, "y"))

    def test_one_edit_of_several_clashes(self):
        self.assertRaises(Clash, edits.shifted, (5, 8, ""), (("a", 0, 1, ""), ("a", 7, 9, ""), ("a", 20, 21, "")), "a")

    def test_all_pairs_of_places(self):
        spans = [(start, end) for start in range(5) for end in range(start, 5)]
        for one, other in itertools.product(spans, repeat=2):
            shared = set(range(*one)) & set(range(*other))
            within = (one[0] == one[1] and other[0] < one[0] < other[1]) or (
                other[0] == other[1] and one[0] < other[0] < one[1])
            at_an_end = (one[0] == one[1] and one[0] in other) or (other[0] == other[1] and other[0] in one)
            if shared or within or at_an_end:
                self.clashes(one + ("n",), other + ("abc",))
            else:
                by = 3 - (other[1] - other[0]) if other[1] <= one[0] else 0
                self.shifts(one + ("n",), (other + ("abc",),), (one[0] + by, one[1] + by))

    def test_by_name(self):
        self.assertEqual(edits.shifted(name="a", paper=(("a", 0, 0, "x"),), edit=(1, 1, "y")), (2, 2, "y"))
