"""[7] and [8]: the web as a text, and the places in it."""

import itertools
import unittest

from proseknot import webtext
from proseknot.errors import InvalidNumber, InvalidText, Undefined
from proseknot.webs import is_web
from tests.oracle import first_fault
from tests.samples import EMPTY, GREET, LARGE, WEBS, WIDE, plain, use

GREET_TEXT = """@
.Greet.
*main()
|begin
>  say(hello)
>  say(bye)
@
.Say it.
=say(x)
|print {x}
"""

SMALL = (
    ((), None, ()),
    (("A b.", ""), ("abcdefgh", ("a", "abcdefgh", "ab"), False), (plain("c"), use(20, "d", "e f", "g", "hi"))),
    (("",), ("f", (), True), (use(0, "abcdefgh"), plain(""))),
)

SIGNS = "\n@.=*|> (),azA1~%\t\xe9{_"

BEYOND = -5, -1, 10 ** 9


def fault_of(text):
    """Where read_web finds the text wrong, None if it reads it."""
    try:
        webtext.read_web(text)
    except InvalidText as error:
        assert error.text == text
        return error.at
    return None


class Text(unittest.TestCase):
    def reads(self, text, web):
        self.assertEqual(webtext.web_text(web), text)
        self.assertEqual(webtext.read_web(text), web)

    def test_line_by_line(self):
        self.reads(GREET_TEXT, GREET)
        self.reads("", EMPTY)
        self.reads("@\n", (((), None, ()),))
        self.reads("@\n.\n", (((("",), None, ())),))
        self.reads("@\n@\n.. |\n", (((), None, ()), ((". |",), None, ())))
        self.reads("@\n*a()\n", (((), ("a", (), True), ()),))
        self.reads("@\n=a()\n", (((), ("a", (), False), ()),))
        self.reads("@\n=a(b,a,abcdefgh)\n", (((), ("a", ("b", "a", "abcdefgh"), False), ()),))
        self.reads("@\n=a()\n|\n||\n| ,()\n", (((), ("a", (), False), (plain(""), plain("|"), plain(" ,()"))),))
        self.reads("@\n=a()\n>b()\n>   c(x y,{z},~)\n",
                   (((), ("a", (), False), (use(0, "b"), use(3, "c", "x y", "{z}", "~"))),))

    def test_there_and_back(self):
        for web in WEBS + (SMALL,):
            self.assertEqual(webtext.read_web(webtext.web_text(web)), web)

    def test_by_name(self):
        self.assertEqual(webtext.web_text(web=GREET), GREET_TEXT)
        self.assertEqual(webtext.read_web(text=GREET_TEXT), GREET)


class WrongTexts(unittest.TestCase):
    def wrong(self, text, at):
        self.assertEqual(fault_of(text), at, text)

    def told_alike(self, text):
        self.assertEqual(fault_of(text), first_fault(text), text)

    def test_ends_too_early(self):
        for text in ("@", "@\n.", "@\n.ab", "@\n*a()", "@\n=", "@\n=a(b,", "@\n=a()\n>", "@\n=a()\n>  ",
                     "@\n=a()\n>b(c", "@\n=a()\n>b(c ", "@\n=a()\n|", "@\n=a(b,b", "@\n=abcdefgh"):
            self.wrong(text, len(text))

    def test_lines_in_a_wrong_order(self):
        self.wrong("\n", 0)
        self.wrong(".a\n", 0)
        self.wrong("=a()\n", 0)
        self.wrong("@\n|\n", 2)
        self.wrong("@\n.\n>a()\n", 4)
        self.wrong("@\n=a()\n.\n", 7)
        self.wrong("@\n=a()\n=a()\n", 7)
        self.wrong("@\n=a()\n|\n*a()\n", 9)
        self.wrong("@\n\n", 2)
        self.wrong("@ \n", 1)
        self.wrong("@\n<more\n", 2)

    def test_params(self):
        self.wrong("@\n=f(a,a)\n", 8)
        self.wrong("@\n=f(a,a,b)\n", 8)
        self.wrong("@\n=f(a,b,a)\n", 10)
        self.wrong("@\n=f(ab,ab%\n", 10)
        self.wrong("@\n=f(abcdefgh,abcdefgh)\n", 21)
        self.wrong("@\n=f(abcdefgh,abcdefgh", 21)
        self.wrong("@\n=f(a,abcdefgh,abcdefghi)\n", 23)
        self.wrong("@\n=f(abcdefghi)\n", 13)
        self.wrong("@\n=f(a,b,c,d)\n", 10)
        self.wrong("@\n=f(,a)\n", 5)
        self.wrong("@\n=f(a,)\n", 7)
        self.wrong("@\n=f( a)\n", 5)
        self.wrong("@\n*f(a)\n", 5)
        self.assertIsNone(fault_of("@\n=f(a,aa)\n"))

    def test_uses(self):
        start = "@\n=a()\n>"
        self.assertIsNone(fault_of(start + " " * 20 + "a()\n"))
        self.wrong(start + " " * 21 + "a()\n", len(start) + 20)
        self.wrong(start + "b( c)\n", len(start) + 2)
        self.wrong(start + "b(c )\n", len(start) + 4)
        self.wrong(start + "b(c ,d)\n", len(start) + 4)
        self.wrong(start + "b(c, d)\n", len(start) + 4)
        self.wrong(start + "b(,d)\n", len(start) + 2)
        self.wrong(start + "b(c,)\n", len(start) + 4)
        self.wrong(start + "b(c,d,e,f)\n", len(start) + 7)
        self.wrong(start + "b(c(d))\n", len(start) + 3)
        self.wrong(start + "b(c)d\n", len(start) + 4)
        self.wrong(start + "abcdefghi()\n", len(start) + 8)
        self.wrong(start + "()\n", len(start))

    def test_signs_of_no_line(self):
        for sign in ("%", "\t", "\r", "\x7f", "\xe9", "\u2028", "\x00"):
            self.wrong("@\n.a" + sign + "\n", 4)
            self.wrong("@\n=a()\n|" + sign + "\n", 8)
            self.wrong("@\n=a()\n>b(c" + sign + ")\n", 11)
            self.wrong(sign, 0)

    def test_cut_at_every_place(self):
        for web in (GREET, WIDE, SMALL):
            text = webtext.web_text(web)
            for end in range(len(text)):
                self.told_alike(text[:end])

    def test_one_sign_exchanged_put_in_or_left_out(self):
        for web in (GREET, SMALL):
            text = webtext.web_text(web)
            for at in range(len(text) + 1):
                self.told_alike(text[:at] + text[at + 1:])
                for sign in SIGNS:
                    self.told_alike(text[:at] + sign + text[at:])
                    self.told_alike(text[:at] + sign + text[at + 1:])

    def test_two_lines_exchanged(self):
        lines = webtext.web_text(SMALL).splitlines(True)
        for one in range(len(lines)):
            for other in range(one):
                moved = list(lines)
                moved[one], moved[other] = moved[other], moved[one]
                self.told_alike("".join(moved))

    def test_all_short_beginnings(self):
        for start, signs, most in (("", "@\n.=|", 5), ("@\n=f(", "a,) \n", 5), ("@\n*f", "(a)\n", 4),
                                   ("@\n=f()\n>", " a(,)", 5), ("@\n=f()\n>a(", " a,)", 6)):
            for many in range(most + 1):
                for more in itertools.product(signs, repeat=many):
                    self.told_alike(start + "".join(more))

    def test_a_head_unlike_an_earlier_one(self):
        for one, other in (("=a()", "*a()"), ("*a()", "=a()"), ("=a(b)", "=a()"), ("=a(b)", "=a(c)"),
                           ("=a(b,c)", "=a(c,b)"), ("=a()", "=a(a)")):
            self.wrong("@\n" + one + "\n@\n" + other + "\n", len(one) + 5)
            self.assertIsNone(fault_of("@\n" + one + "\n@\n" + one + "\n"))
        self.wrong("@\n=a()\n@\n=b()\n|x\n@\n.p\n=b(c)\n@\n=a(c)\n", 22)

    def test_a_head_unlike_an_earlier_one_is_behind_all_other_faults(self):
        heads = "@\n=a()\n@\n=a(b)\n"
        self.wrong(heads, 9)
        self.wrong(heads + ".\n", len(heads))
        self.wrong(heads + "@", len(heads) + 1)
        self.wrong("@\n=a()\n@\n=a(b,b)\n", 15)
        self.wrong("@\n=a()\n@\n=a(b", 13)

    def test_what_is_read_is_a_web(self):
        for text in ("@\n=a(b)\n@\n@\n=a(b)\n", GREET_TEXT, webtext.web_text(LARGE)):
            self.assertTrue(is_web(webtext.read_web(text)))


class Places(unittest.TestCase):
    def undefined(self, *place):
        with self.assertRaises(Undefined) as caught:
            webtext.place_in(*place)
        self.assertEqual(caught.exception.what, "place")

    def test_line_starts(self):
        self.assertEqual(webtext.line_starts(EMPTY), ())
        self.assertEqual(webtext.line_starts(GREET), (0, 2, 10, 18, 25, 39, 51, 53, 62, 70))
        for web in WEBS:
            text = webtext.web_text(web)
            starts = [at for at in range(len(text)) if at == 0 or text[at - 1] == "\n"]
            self.assertEqual(webtext.line_starts(web), tuple(starts))

    def test_told_at_of_the_document_s_web(self):
        self.assertEqual(webtext.told_at(GREET, 0), (0, "section", 0, 0))
        self.assertEqual(webtext.told_at(GREET, 1), (0, "section", 0, 1))
        self.assertEqual(webtext.told_at(GREET, 2), (0, "prose", 0, 0))
        self.assertEqual(webtext.told_at(GREET, 17), (0, "head", 0, 7))
        self.assertEqual(webtext.told_at(GREET, 28), (0, "code", 1, 3))
        self.assertEqual(webtext.told_at(GREET, 51), (1, "section", 0, 0))
        self.assertEqual(webtext.told_at(GREET, 80), (1, "code", 0, 10))

    def test_every_place_there_and_back(self):
        for web in (GREET, WIDE, SMALL):
            expected = []
            for number, (prose, head, code) in enumerate(web):
                kinds = [("section", 0)] + [("prose", k) for k in range(len(prose))]
                kinds += [("head", 0)] * (head is not None) + [("code", k) for k in range(len(code))]
                expected += [(number, kind, k) for kind, k in kinds]
            lines = webtext.web_text(web).splitlines(True)
            self.assertEqual(len(lines), len(expected))
            at = 0
            for line, place in zip(lines, expected):
                for column in range(len(line)):
                    told = webtext.told_at(web, at)
                    self.assertEqual(told, place + (column,))
                    if place[1] == "section":
                        self.undefined(web, *told)
                    else:
                        self.assertEqual(webtext.place_in(web, *told), at)
                    at += 1
                self.undefined(web, *place, len(line))

    def test_no_such_place(self):
        self.undefined(EMPTY, 0, "prose", 0, 0)
        for kind in ("section", "", "Prose", "line", "plain", "use"):
            self.undefined(GREET, 0, kind, 0, 0)
        for number in BEYOND + (2,):
            self.undefined(GREET, number, "prose", 0, 0)
        for number in BEYOND + (1,):
            self.undefined(GREET, 0, "prose", number, 0)
            self.undefined(GREET, 0, "head", number, 0)
            self.undefined(GREET, 1, "code", number, 0)
        for column in BEYOND + (8,):
            self.undefined(GREET, 0, "prose", 0, column)
            self.undefined(GREET, 0, "head", 0, column)
        self.undefined(WIDE, 0, "head", 0, 0)
        self.undefined(WIDE, 0, "prose", 0, 0)
        self.undefined(WIDE, 2, "code", 0, 0)

    def test_no_such_number(self):
        for web in WEBS:
            length = len(webtext.web_text(web))
            for at in (length, length + 1, 10 ** 30, -1, -length - 1, -10 ** 30):
                with self.assertRaises(InvalidNumber) as caught:
                    webtext.told_at(web, at)
                self.assertEqual(caught.exception.value, at)

    def test_by_name(self):
        self.assertEqual(webtext.line_starts(web=SMALL)[:2], (0, 2))
        self.assertEqual(webtext.place_in(web=GREET, section=0, kind="head", number=0, column=7), 17)
        self.assertEqual(webtext.told_at(at=17, web=GREET), (0, "head", 0, 7))
