"""[15] and [16]: the woven text, and the texts of a web by their names."""

import unittest

from proseknot import weaving
from proseknot.errors import InvalidWeb, NotWhole, NoText
from proseknot.order import faults
from proseknot.tangling import places_of, tangled
from proseknot.webs import file_names
from proseknot.webtext import line_starts, place_in, read_web, web_text
from tests.reference import tangle_of_uses, whole_web, woven_signs
from tests.samples import EMPTY, GREET, LARGE, NO_WEBS, WIDE

MADE_UP = [whole_web(seed) for seed in range(120)]

CIRCLE = read_web("@\n*f()\n>a()\n@\n=a()\n>a()\n")
MISSING = read_web("@\n*f()\n|x\n>gone()\n>a()\n@\n=a()\n>a()\n")

# A piece told in three sections and used in two, a file in two, a use with and without arguments.
FULL = read_web("""@
.A b.
.
@
=b(x,yy)
|
| {x}
@
.To do.
*m()
>   b(p q,{x})
>c()
@
=b(x,yy)
>c()
>c()
@
=c()
@
=b(x,yy)
@
*m()
|end
""")


class Woven(unittest.TestCase):
    def weaves(self, web, *lines):
        self.assertEqual(weaving.woven(web), "".join(line + "\n" for line in lines))

    def test_the_web_without_sections(self):
        self.weaves(EMPTY, "Index")

    def test_the_document_s_example(self):
        self.weaves(GREET, "Section 1.", "Greet.", "file main() is", "  begin", "    <say 2>(hello)",
                    "    <say 2>(bye)", "Section 2.", "Say it.", "say(x) is", "  print {x}", "Used in 1.",
                    "Index", "main: 1.", "say: 2.")

    def test_each_kind_of_line(self):
        self.weaves(
            FULL,
            "Section 1.", "A b.", "",
            "Section 2.", "b(x,yy) is", "  ", "   {x}", "See also 4, 6.", "Used in 3.",
            "Section 3.", "To do.", "file m() is", "     <b 2>(p q,{x})", "  <c 5>", "See also 7.",
            "Section 4.", "b(x,yy) goes on", "  <c 5>", "  <c 5>",
            "Section 5.", "c() is", "Used in 3, 4.",
            "Section 6.", "b(x,yy) goes on",
            "Section 7.", "file m() goes on", "  end",
            "Index", "b: 2, 4, 6.", "c: 5.", "m: 3, 7.")

    def test_sections_without_a_head(self):
        self.weaves(read_web("@\n@\n.x\n@\n"), "Section 1.", "Section 2.", "x", "Section 3.", "Index")

    def test_heads(self):
        self.weaves(read_web("@\n=a()\n@\n=b(x)\n@\n=c(z,y,x)\n@\n*d()\n@\n*d()\n"),
                    "Section 1.", "a() is", "Section 2.", "b(x) is", "Section 3.", "c(z,y,x) is",
                    "Section 4.", "file d() is", "See also 5.", "Section 5.", "file d() goes on",
                    "Index", "a: 1.", "b: 2.", "c: 3.", "d: 4, 5.")

    def test_a_use_ahead_of_its_piece_tells_the_first_section(self):
        self.weaves(read_web("@\n=a()\n>  c(1)\n@\n=c(x)\n@\n=c(x)\n"),
                    "Section 1.", "a() is", "    <c 2>(1)", "Section 2.", "c(x) is", "See also 3.", "Used in 1.",
                    "Section 3.", "c(x) goes on", "Index", "a: 1.", "c: 2, 3.")

    def test_used_in_tells_each_section_once_ascending(self):
        self.weaves(read_web("@\n=z()\n>p()\n>p()\n@\n=p()\n@\n=y()\n>p()\n@\n=z()\n>p()\n"),
                    "Section 1.", "z() is", "  <p 2>", "  <p 2>", "See also 4.", "Section 2.", "p() is",
                    "Used in 1, 3, 4.", "Section 3.", "y() is", "  <p 2>", "Section 4.", "z() goes on", "  <p 2>",
                    "Index", "p: 2.", "y: 3.", "z: 1, 4.")

    def test_slots_and_braces_stand_as_they_are(self):
        self.weaves(read_web("@\n=a(x)\n|{x}{y}\n>b()\n@\n=b()\n|<a 1>\n"),
                    "Section 1.", "a(x) is", "  {x}{y}", "  <b 2>", "Section 2.", "b() is", "  <a 1>", "Used in 1.",
                    "Index", "a: 1.", "b: 2.")

    def test_numbers_of_two_figures(self):
        web = read_web("@\n=a()\n" * 11)
        text = weaving.woven(web)
        self.assertIn("See also 2, 3, 4, 5, 6, 7, 8, 9, 10, 11.\n", text)
        self.assertIn("Section 11.\na() goes on\n", text)

    def test_the_names_of_the_index_ascend(self):
        text = weaving.woven(read_web("@\n=b()\n@\n=ab()\n@\n*c()\n@\n=a()\n"))
        self.assertTrue(text.endswith("Index\na: 4.\nab: 2.\nb: 1.\nc: 3.\n"))

    def test_not_whole(self):
        for web in (CIRCLE, MISSING, WIDE):
            for call in (weaving.woven, weaving.woven_springs):
                with self.assertRaises(NotWhole) as caught:
                    call(web)
                self.assertEqual(caught.exception.fault, faults(web)[0])

    def test_webs_that_are_made_up(self):
        for web in MADE_UP + [LARGE]:
            self.assertEqual(weaving.woven(web), "".join([sign for sign, at in woven_signs(web)]))


class Springs(unittest.TestCase):
    def test_the_place_of_each_kind_of_sign(self):
        # 0 "@", 2 ".p", 5 "*f()", 10 "|a", 13 ">  g(b,c)", 23 "@", 25 "=g(x,y)", 33 "|{x}"
        web = read_web("@\n.p\n*f()\n|a\n>  g(b,c)\n@\n=g(x,y)\n|{x}\n")
        told = weaving.woven_springs(web)
        lines = []
        for sign, at in told:
            if not lines or lines[-1][0].endswith("\n"):
                lines.append(("", []))
            lines[-1] = (lines[-1][0] + sign, lines[-1][1] + [at])
        none = [None] * 40
        self.assertEqual(lines, [
            ("Section 1.\n", none[:11]),
            ("p\n", [3, 4]),
            ("file f() is\n", none[:5] + [6] + none[:6]),
            ("  a\n", [None, None, 11, 12]),
            ("    <g 2>(b,c)\n", [None, None, 14, 15] + none[:6] + [18, None, 20, None, None]),
            ("Section 2.\n", none[:11]),
            ("g(x,y) is\n", [26] + none[:9]),
            ("  {x}\n", [None, None, 34, 35, 36, 37]),
            ("Used in 1.\n", none[:11]),
            ("Index\n", none[:6]),
            ("f: 1.\n", none[:6]),
            ("g: 2.\n", none[:6]),
        ])

    def test_the_name_of_a_later_section_is_made(self):
        told = weaving.woven_springs(read_web("@\n=ab()\n@\n=ab()\n|\n"))
        text = "".join([sign for sign, at in told])
        first, later = text.index("ab() is"), text.index("ab() goes on")
        self.assertEqual([at for sign, at in told[first:first + 3]], [3, 4, None])
        self.assertEqual([at for sign, at in told[later:later + 3]], [None, None, None])

    def test_each_sign_stands_at_its_place(self):
        for web in MADE_UP + [FULL, GREET]:
            text = web_text(web)
            for sign, at in weaving.woven_springs(web):
                if at is not None:
                    self.assertEqual(sign, text[at])

    def test_joined_they_are_woven(self):
        for web in MADE_UP + [EMPTY, FULL, GREET, LARGE]:
            told = weaving.woven_springs(web)
            self.assertEqual("".join([sign for sign, at in told]), weaving.woven(web))
            self.assertEqual(told, woven_signs(web))

    def test_turned_round_they_are_places_of(self):
        for web in MADE_UP[:15]:
            told = weaving.woven_springs(web)
            for at in range(len(web_text(web))):
                expected = [("", place) for place, (sign, came) in enumerate(told) if came == at]
                self.assertEqual([pair for pair in places_of(web, at) if pair[0] == ""], expected)

    def test_lines_of_uses_have_made_line_feeds_those_of_plain_lines_not(self):
        told = [at for sign, at in weaving.woven_springs(FULL) if sign == "\n" and at is not None]
        starts = line_starts(FULL) + (len(web_text(FULL)),)
        kinds = [(0, "prose", 0), (0, "prose", 1), (1, "code", 0), (1, "code", 1), (2, "prose", 0), (6, "code", 0)]
        ends = [starts[starts.index(place_in(FULL, *kind, 0)) + 1] - 1 for kind in kinds]
        self.assertEqual(told, ends)


class Texts(unittest.TestCase):
    def test_names(self):
        self.assertEqual(weaving.text_names(EMPTY), ("",))
        self.assertEqual(weaving.text_names(GREET), ("main", ""))
        self.assertEqual(weaving.text_names(read_web("@\n*z()\n@\n=b()\n@\n*a()\n@\n*z()\n")), ("z", "a", ""))

    def test_names_of_webs_that_are_not_whole(self):
        self.assertEqual(weaving.text_names(MISSING), ("f", ""))
        self.assertEqual(weaving.text_names(WIDE), ("main", "other", ""))
        for seed in range(40):
            web = tangle_of_uses(seed)
            self.assertEqual(weaving.text_names(web), file_names(web) + ("",))

    def test_each(self):
        for web in MADE_UP[:30] + [EMPTY, FULL, GREET]:
            for name in file_names(web):
                self.assertEqual(weaving.text_of(web, name), tangled(web, name))
            self.assertEqual(weaving.text_of(web, ""), weaving.woven(web))

    def test_no_text(self):
        for web, name in ((GREET, "say"), (GREET, "never"), (GREET, "-"), (EMPTY, "main"), (FULL, "b")):
            with self.assertRaises(NoText) as caught:
                weaving.text_of(web, name)
            self.assertEqual(caught.exception.name, name)

    def test_not_whole_ahead_of_no_text(self):
        for web in (CIRCLE, MISSING, WIDE):
            for name in ("", "f", "main", "never"):
                with self.assertRaises(NotWhole) as caught:
                    weaving.text_of(web, name)
                self.assertEqual(caught.exception.fault, faults(web)[0])

    def test_by_name(self):
        self.assertEqual(weaving.text_of(name="main", web=GREET), "begin\n  print hello\n  print bye\n")
        self.assertEqual(weaving.woven(web=EMPTY), "Index\n")
        self.assertEqual(weaving.woven_springs(web=EMPTY)[0], ("I", None))
        self.assertEqual(weaving.text_names(web=EMPTY), ("",))


class EachTakesAWeb(unittest.TestCase):
    CALLS = ((weaving.woven, ()), (weaving.woven_springs, ()), (weaving.text_names, ()), (weaving.text_of, ("",)),
             (weaving.text_of, ("never",)))

    def test_invalid_web_ahead_of_all(self):
        for call, rest in self.CALLS:
            for value in NO_WEBS:
                with self.assertRaises(InvalidWeb) as caught:
                    call(value, *rest)
                self.assertIs(caught.exception.value, value, call)
