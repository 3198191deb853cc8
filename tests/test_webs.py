"""[1], [2], [4], [5] and [6]: what webs are, and the pieces in them."""

import copy
import unittest

from proseknot import webs, webtext
from proseknot.errors import InvalidWeb, NoPiece
from tests.samples import DEEP, EMPTY, GREET, LARGE, MAIN, NO_WEBS, SAY, WEBS, WIDE, plain, use

HEADLESS = ((), None, ())


def of_prose(prose):
    return ((prose, None, ()),)


def of_head(head):
    return (((), head, ()),)


def of_line(line):
    return (((), ("a", (), False), (line,)),)


def of_argument(argument):
    return of_line(("use", 0, "a", (argument,)))


WITH_A_WEB = (
    (webs.piece_names, ()), (webs.file_names, ()), (webs.sections_of, ("say",)), (webs.params_of, ("say",)),
    (webs.code_of, ("say",)), (webs.used_by, ("say",)), (webs.users_of, ("say",)), (webtext.web_text, ()),
    (webtext.line_starts, ()), (webtext.place_in, (0, "prose", 0, 0)), (webtext.told_at, (0,)),
    (webtext.place_in, (-1, "none", -1, -1)), (webtext.told_at, (-1,)), (webs.sections_of, ("nowhere",)),
)


class IsWeb(unittest.TestCase):
    def are(self, *values):
        for value in values:
            self.assertIs(webs.is_web(value), True, value)

    def are_not(self, *values):
        for value in values:
            self.assertIs(webs.is_web(value), False, value)

    def test_samples(self):
        self.are(*WEBS)

    def test_values_that_are_no_webs(self):
        self.are_not(*NO_WEBS)

    def test_sections(self):
        self.are((HEADLESS,), (HEADLESS, HEADLESS))
        self.are_not(HEADLESS, (list(HEADLESS),), (HEADLESS[:2],), (HEADLESS + ((),),), [HEADLESS],
                     ((None, None, ()),), (("", None, ()),), (((), None, None),), (((), None, []),),
                     (((), None, ""),), (([], None, ()),), (((), (), ()),), (((), False, ()),))

    def test_no_code_without_a_head(self):
        self.are((((), MAIN, (plain(""),)),))
        self.are_not((((), None, (plain(""),)),))

    def test_lines(self):
        self.are(of_prose(("",)), of_prose((" ~!$&@[]{}",)), of_line(plain("")), of_line(plain(" ,() ")))
        for sign in ("\n", "\t", "\r", "%", "\x1f", "\x7f", "\xe9", "\u2028", "\x00"):
            self.are_not(of_prose((sign,)), of_prose(("a" + sign + "b",)), of_line(plain("a" + sign)))
        self.are_not(of_prose((1,)), of_prose((None,)), of_prose(("a", ["b"])), of_prose("ab"), of_prose((("a",),)))

    def test_every_sign_of_a_line(self):
        for number in range(300):
            told = 32 <= number <= 126 and number != 37
            self.assertIs(webs.is_web(of_prose((chr(number),))), told, number)

    def test_words(self):
        words = ("a", "z", "abcdefgh")
        others = ("", "abcdefghi", "A", "a1", "a b", " a", "a_", "\xe9", "`", "{", "a\n", 1, None, ("a",))
        for word in words:
            self.are(of_head((word, (), False)), of_head(("x", (word,), False)), of_line(use(0, word)))
        for word in others:
            self.are_not(of_head((word, (), False)), of_head(("x", (word,), False)), of_line(use(0, word)))

    def test_heads(self):
        self.are(of_head(("a", (), True)), of_head(("a", ("a",), False)), of_head(("a", ("b", "c", "d"), False)))
        self.are_not(of_head(["a", (), True]), of_head(("a", [], True)), of_head(("a", (), 1)), of_head(("a", (), 0)),
                     of_head(("a", (), None)), of_head(("a", ())), of_head(("a", (), False, ())), of_head("abc"),
                     of_head(("a", "bc", False)), of_head(("a", None, False)))

    def test_params(self):
        self.are_not(of_head(("a", ("b", "c", "d", "e"), False)), of_head(("a", ("b", "b"), False)),
                     of_head(("a", ("b", "c", "b"), False)), of_head(("a", ("b", ["c"]), False)))

    def test_a_file_has_no_params(self):
        self.are_not(of_head(("a", ("b",), True)))

    def test_code_lines(self):
        self.are_not(of_line(["plain", ""]), of_line(("plain",)), of_line(("plain", "", "")), of_line(("Plain", "")),
                     of_line(("plain", None)), of_line(("use", "")), of_line(("plain", 0, "a", ())), of_line(None),
                     of_line(("use", 0, "a")), of_line(["use", 0, "a", ()]), of_line(("use", 0, "a", (), ())),
                     of_line(()), of_line("ab"), of_line(("uses", 0, "a", ())), of_line((["plain"], "")))

    def test_indents(self):
        for indent in range(21):
            self.are(of_line(use(indent, "a")))
        self.are_not(of_line(use(21, "a")), of_line(use(-1, "a")), of_line(use(True, "a")), of_line(use(False, "a")),
                     of_line(use(None, "a")), of_line(use("", "a")), of_line(use((), "a")), of_line(use(10 ** 9, "a")))

    def test_arguments(self):
        self.are(*[of_argument(told) for told in ("a", "a b", "{x}", "!", "~", "a  .", "=", "@")])
        self.are_not(*[of_argument(told) for told in ("", " ", " a", "a ", "a,b", "(", ")", "a)", "%", "a\tb", "\n",
                                                      "\xe9", 1, None, ("a",), True)])
        self.are(of_line(use(0, "a", "a", "a", "a")))
        self.are_not(of_line(use(0, "a", "a", "b", "c", "d")), of_line(("use", 0, "a", ["b"])),
                     of_line(("use", 0, "a", "b")), of_line(("use", 0, "a", None)))

    def test_sections_of_one_name_have_one_head(self):
        heads = (("a", (), True), ("a", (), False), ("a", ("b",), False), ("a", ("b", "c"), False),
                 ("a", ("c", "b"), False))
        for one in heads:
            for other in heads:
                told = webs.is_web((((), one, ()), HEADLESS, ((), ("b", (), False), ()), ((), other, ())))
                self.assertIs(told, one == other, (one, other))

    def test_no_error_of_values_within_one_another(self):
        for shape in (lambda x: (x,), lambda x: [x], lambda x: ((), x, ()), lambda x: (x, None, ()),
                      lambda x: ((), None, x), lambda x: ("plain", x), lambda x: ("use", 0, "a", x)):
            for value in (None, True, -1, 10 ** 40, "a", (), []):
                for _ in range(30):
                    value = shape(value)
                    self.assertIn(webs.is_web(value), (True, False))
                    self.assertIs(webs.is_web(of_line(value)), webs.is_web(of_line(copy.deepcopy(value))))


class EachTakesAWeb(unittest.TestCase):
    def test_invalid_web_ahead_of_all(self):
        for call, rest in WITH_A_WEB:
            for value in NO_WEBS:
                with self.assertRaises(InvalidWeb) as caught:
                    call(value, *rest)
                self.assertIs(caught.exception.value, value, call)

    def test_nothing_that_is_handed_in_is_changed(self):
        value = [[((), None, [])], GREET]
        kept = copy.deepcopy(value)
        for call, rest in WITH_A_WEB:
            self.assertRaises(InvalidWeb, call, value, *rest)
        self.assertIs(webs.is_web(value), False)
        self.assertEqual(value, kept)

    def test_by_name(self):
        self.assertIs(webs.is_web(value=GREET), True)
        self.assertEqual(webs.piece_names(web=GREET), ("main", "say"))
        self.assertEqual(webs.file_names(web=GREET), ("main",))
        self.assertEqual(webs.sections_of(web=GREET, name="say"), (1,))
        self.assertEqual(webs.params_of(name="say", web=GREET), ("x",))
        self.assertEqual(webs.code_of(web=GREET, name="say"), ((1, 0, plain("print {x}")),))
        self.assertEqual(webs.used_by(web=GREET, name="main"), ("say",))
        self.assertEqual(webs.users_of(web=GREET, name="say"), ("main",))


class Pieces(unittest.TestCase):
    def test_piece_names(self):
        self.assertEqual(webs.piece_names(EMPTY), ())
        self.assertEqual(webs.piece_names((HEADLESS,)), ())
        self.assertEqual(webs.piece_names(GREET), ("main", "say"))
        self.assertEqual(webs.piece_names(WIDE), ("say", "main", "deep", "other"))
        self.assertEqual(webs.piece_names(LARGE), ("say",))

    def test_file_names(self):
        self.assertEqual(webs.file_names(EMPTY), ())
        self.assertEqual(webs.file_names(WIDE), ("main", "other"))
        self.assertEqual(webs.file_names(LARGE), ())
        self.assertEqual(webs.file_names((((), ("z", (), True), ()), ((), ("a", (), True), ()))), ("z", "a"))

    def test_sections_of(self):
        self.assertEqual(webs.sections_of(WIDE, "say"), (2, 4))
        self.assertEqual(webs.sections_of(WIDE, "main"), (3, 6))
        self.assertEqual(webs.sections_of(WIDE, "deep"), (5,))
        self.assertEqual(webs.sections_of(LARGE, "say"), tuple(range(14)))

    def test_params_of(self):
        self.assertEqual(webs.params_of(WIDE, "main"), ())
        self.assertEqual(webs.params_of(WIDE, "say"), SAY[1])
        self.assertEqual(webs.params_of(WIDE, "deep"), DEEP[1])

    def test_code_of(self):
        self.assertEqual(webs.code_of(WIDE, "other"), ())
        self.assertEqual(webs.code_of(WIDE, "say"), (
            (4, 0, use(1, "main")), (4, 1, use(1, "deep")), (4, 2, use(2, "say", "~"))))
        self.assertEqual(webs.code_of(WIDE, "main"), (
            (3, 0, use(0, "deep")), (3, 1, plain("")), (3, 2, use(20, "nowhere", "a b", "{x}", "c.d")),
            (6, 0, use(0, "say", "x")), (6, 1, use(0, "deep", "=*|>", "@."))))

    def test_used_by(self):
        self.assertEqual(webs.used_by(WIDE, "main"), ("deep", "nowhere", "say"))
        self.assertEqual(webs.used_by(WIDE, "say"), ("main", "deep", "say"))
        self.assertEqual(webs.used_by(WIDE, "deep"), ("gone",))
        self.assertEqual(webs.used_by(WIDE, "other"), ())

    def test_users_of(self):
        self.assertEqual(webs.users_of(WIDE, "deep"), ("say", "main"))
        self.assertEqual(webs.users_of(WIDE, "say"), ("say", "main"))
        self.assertEqual(webs.users_of(WIDE, "other"), ())

    def test_users_of_a_name_without_a_piece(self):
        self.assertEqual(webs.users_of(WIDE, "gone"), ("deep",))
        self.assertEqual(webs.users_of(WIDE, "nowhere"), ("main",))
        self.assertEqual(webs.users_of(WIDE, "never"), ())
        self.assertEqual(webs.users_of(EMPTY, ""), ())

    def test_no_piece(self):
        for call in (webs.sections_of, webs.params_of, webs.code_of, webs.used_by):
            for web, name in ((EMPTY, "say"), (GREET, "deep"), (GREET, ""), (GREET, "Say"), (WIDE, "nowhere")):
                with self.assertRaises(NoPiece) as caught:
                    call(web, name)
                self.assertEqual(caught.exception.name, name)

    def test_equal_calls_return_equal_results(self):
        for web in (WIDE, copy.deepcopy(WIDE)):
            self.assertEqual(webs.used_by(web, "say"), webs.used_by(WIDE, "say"))
            self.assertEqual(webs.code_of(web, "main"), webs.code_of(WIDE, "main"))
