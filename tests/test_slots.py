"""[11]: the parts of a line, and lines that are filled."""

import copy
import itertools
import re
import unittest

from proseknot.slots import filled, parts_of


class Parts(unittest.TestCase):
    def parts(self, line, params, *expected):
        self.assertEqual(parts_of(line, params), expected)

    def test_text_alone(self):
        self.parts("", ())
        self.parts("", ("x",))
        self.parts("print x", ("x",), ("text", 0, 7))
        self.parts("{x}", (), ("text", 0, 3))

    def test_slots_at_the_ends(self):
        self.parts("{x}", ("x",), ("slot", 0, 3, 0))
        self.parts("{x} b", ("x",), ("slot", 0, 3, 0), ("text", 3, 5))
        self.parts("b {x}", ("x",), ("text", 0, 2), ("slot", 2, 5, 0))
        self.parts("a{x}b", ("x",), ("text", 0, 1), ("slot", 1, 4, 0), ("text", 4, 5))

    def test_slots_beside_one_another(self):
        self.parts("{x}{x}{y}", ("y", "x"), ("slot", 0, 3, 1), ("slot", 3, 6, 1), ("slot", 6, 9, 0))

    def test_a_param_that_is_the_beginning_of_another_one(self):
        for params, one, other in ((("a", "ab"), 0, 1), (("ab", "a"), 1, 0)):
            self.parts("{a}{ab}", params, ("slot", 0, 3, one), ("slot", 3, 7, other))
        self.parts("{abc}{ab}", ("a", "ab"), ("text", 0, 5), ("slot", 5, 9, 1))
        self.parts("{abcdefgh}", ("abcdefgh",), ("slot", 0, 10, 0))

    def test_braces_that_are_no_slots(self):
        for line in ("{}", "{ x}", "{x }", "{x", "x}", "}x{", "{X}", "{y}", "{xx}", "{}x{}", "{", "{x{x"):
            self.parts(line, ("x",), ("text", 0, len(line)))

    def test_braces_around_slots(self):
        self.parts("{{x}}", ("x",), ("text", 0, 1), ("slot", 1, 4, 0), ("text", 4, 5))
        self.parts("{x{x}", ("x",), ("text", 0, 2), ("slot", 2, 5, 0))
        self.parts("{x}}{x}", ("x",), ("slot", 0, 3, 0), ("text", 3, 4), ("slot", 4, 7, 0))
        self.parts("{y}{x}{", ("x",), ("text", 0, 3), ("slot", 3, 6, 0), ("text", 6, 7))

    def test_text_between_slots_is_one_part(self):
        self.parts("{x}{y}b{}{x}", ("x",), ("slot", 0, 3, 0), ("text", 3, 9), ("slot", 9, 12, 0))

    def test_all_short_lines(self):
        params = ("a", "ab")
        for many in range(7):
            for signs in itertools.product("{}ab", repeat=many):
                line = "".join(signs)
                slots = [("slot", match.start(), match.end(), len(match.group()) - 3)
                         for match in re.finditer("[{]ab?[}]", line)]
                ends = [0] + [end for slot in slots for end in slot[1:3]] + [len(line)]
                texts = [("text", start, end) for start, end in zip(ends[::2], ends[1::2]) if start < end]
                self.parts(line, params, *sorted(slots + texts, key=lambda part: part[1]))

    def test_params_of_either_kind_and_by_name(self):
        expected = (("slot", 0, 3, 0), ("text", 3, 4))
        self.assertEqual(parts_of("{x}b", ["x"]), expected)
        self.assertEqual(parts_of(params=("x",), line="{x}b"), expected)


class Filled(unittest.TestCase):
    def test_arguments_stand_in_place_of_slots(self):
        self.assertEqual(filled("print {x}", ("x",), ("hello",)), "print hello")
        self.assertEqual(filled("{b}{a} {b}", ("a", "b"), ("1", "22")), "221 22")
        self.assertEqual(filled("{a}{ab}{abc}", ("a", "ab"), ("1", "2")), "12{abc}")
        self.assertEqual(filled("", (), ()), "")
        self.assertEqual(filled("{x}", (), ()), "{x}")
        self.assertEqual(filled("{y} {", ("x",), ("1",)), "{y} {")
        self.assertEqual(filled("a{x}b", ("x",), ("",)), "ab")

    def test_no_slot_is_looked_for_in_what_was_filled_in(self):
        self.assertEqual(filled("{x}{y}", ("x", "y"), ("{y}", "{x}")), "{y}{x}")
        self.assertEqual(filled("{y}{x}", ("x", "y"), ("{y}", "{x}")), "{x}{y}")
        self.assertEqual(filled("{x}", ("x",), ("{x}",)), "{x}")
        self.assertEqual(filled("{{x}}", ("x", "y"), ("y", "1")), "{y}")
        self.assertEqual(filled("{x}y}", ("x", "y"), ("{", "1")), "{y}")
        self.assertEqual(filled("{{y}x}", ("x", "y"), ("1", "")), "{x}")

    def test_sequences_of_either_kind(self):
        for params in (("x", "y"), ["x", "y"]):
            for arguments in (("1", "2"), ["1", "2"]):
                kept = copy.deepcopy((params, arguments))
                self.assertEqual(filled("{y}-{x}", params, arguments), "2-1")
                self.assertEqual((params, arguments), kept)
        self.assertEqual(filled("b", [], []), "b")
        self.assertEqual(filled(arguments=("1",), params=("x",), line="{x}"), "1")
