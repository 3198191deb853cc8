"""[12], [13] and [14]: files, from where their signs come, and to where signs of the web go."""

import unittest

from proseknot import tangling
from proseknot.errors import InvalidNumber, InvalidWeb, NotWhole, NoText
from proseknot.order import faults
from proseknot.webs import file_names
from proseknot.webtext import line_starts, place_in, read_web, told_at, web_text
from tests.reference import file_springs, goes_to, whole_web
from tests.samples import EMPTY, GREET, LARGE, NO_WEBS, WIDE

# Margins of uses in uses, lines that are empty or of blanks alone, a piece told in two sections and used twice.
NESTED = read_web("""@
.Two uses of one piece.
*main()
|top
>  block(one)
@
=block(x)
|start {x}
|
>   inner({x}!,end)
@
*other()
> block(two words)
>block({x})
@
=inner(y,z)
|
|{y}{z}
|  {z} by {y}
| 
@
=block(x)
|stop
""")

MADE_UP = [whole_web(seed) for seed in range(120)]

CIRCLE = read_web("@\n*f()\n>a()\n@\n=a()\n>a()\n")
MISSING = read_web("@\n*f()\n|x\n>gone()\n>a()\n@\n=a()\n>a()\n")

SHORT = read_web("@\n*f()\n>  g(ab,{q})\n@\n=g(x,y)\n|{y}{x}-\n|\n")


class Tangled(unittest.TestCase):
    def tangles(self, text, name, *lines):
        self.assertEqual(tangling.tangled(read_web(text), name), "".join(line + "\n" for line in lines))

    def test_the_document_s_example(self):
        self.assertEqual(tangling.tangled(GREET, "main"), "begin\n  print hello\n  print bye\n")

    def test_plain_lines(self):
        self.tangles("@\n*f()\n|a\n|\n|  b|\n@\n.p\n@\n*f()\n|{x}\n", "f", "a", "", "  b|", "{x}")
        self.tangles("@\n*f()\n", "f")
        self.tangles("@\n*f()\n|a\n@\n*g()\n|b\n", "g", "b")

    def test_margins_of_uses_in_uses(self):
        self.assertEqual(tangling.tangled(NESTED, "main"), (
            "top\n  start one\n\n\n     one!end\n       end by one!\n      \n  stop\n"))

    def test_a_piece_in_several_sections_used_several_times(self):
        self.assertEqual(tangling.tangled(NESTED, "other"), (
            " start two words\n\n\n    two words!end\n      end by two words!\n     \n stop\n"
            "start {x}\n\n\n   {x}!end\n     end by {x}!\n    \nstop\n"))

    def test_nothing_of_the_margin_where_the_line_is_empty(self):
        self.tangles("@\n*f()\n>    g()\n@\n=g()\n|\n>  h()\n@\n=h()\n|\n|a\n", "f", "", "", "      a")

    def test_lines_of_blanks_alone_have_the_margin(self):
        self.tangles("@\n*f()\n>  g()\n@\n=g()\n| \n|   \n", "f", "   ", "     ")

    def test_pieces_without_code(self):
        self.tangles("@\n*f()\n>g()\n|a\n> g()\n@\n=g()\n", "f", "a")

    def test_arguments_with_slots(self):
        self.tangles("@\n*f()\n>g(a b,-)\n@\n=g(x,y)\n>h({y}{x},{x})\n@\n=h(y,x)\n|{x}:{y}\n", "f", "a b:-a b")

    def test_slots_are_those_of_the_piece_in_which_a_line_or_an_argument_stands(self):
        self.tangles("@\n*f()\n>g({y},{x})\n|{x}\n@\n=g(x,y)\n|{x}{y}\n>h({x},{z})\n@\n=h(y,z)\n|{x}{y}{z}\n",
                     "f", "{y}{x}", "{x}{y}{z}", "{x}")

    def test_no_file_is_asked_ahead_of_the_faults(self):
        for web in (CIRCLE, MISSING, WIDE):
            for name in ("f", "a", "main", "never", ""):
                for call in (tangling.tangled, tangling.springs):
                    with self.assertRaises(NotWhole) as caught:
                        call(web, name)
                    self.assertEqual(caught.exception.fault, faults(web)[0])
        self.assertEqual(faults(CIRCLE)[0], ("circle", "a"))
        self.assertEqual(faults(MISSING)[0], ("missing", 0, 1, "gone"))

    def test_no_text(self):
        for web, name in ((GREET, "say"), (GREET, "never"), (GREET, ""), (EMPTY, "main"), (LARGE, "say")):
            for call in (tangling.tangled, tangling.springs):
                with self.assertRaises(NoText) as caught:
                    call(web, name)
                self.assertEqual(caught.exception.name, name)

    def test_by_name(self):
        self.assertEqual(tangling.tangled(name="f", web=SHORT), "  {q}ab-\n\n")
        self.assertEqual(tangling.springs(name="f", web=SHORT), tangling.springs(SHORT, "f"))

    def test_webs_that_are_made_up(self):
        for web in MADE_UP:
            for name in file_names(web):
                expected = "".join([sign for sign, at, way in file_springs(web, name)])
                self.assertEqual(tangling.tangled(web, name), expected)


class Springs(unittest.TestCase):
    def test_the_place_of_each_kind_of_sign(self):
        # 0 "@", 2 "*f()", 7 ">  g(ab,{q})", 20 "@", 22 "=g(x,y)", 30 "|{y}{x}-", 39 "|"
        way = (7,)
        self.assertEqual(tangling.springs(SHORT, "f"), (
            (" ", 8, way), (" ", 9, way), ("{", 15, way), ("q", 16, way), ("}", 17, way), ("a", 12, way),
            ("b", 13, way), ("-", 37, way), ("\n", 38, way), ("\n", 40, way)))

    def test_plain_lines_of_the_file_itself(self):
        web = read_web("@\n.p\n*f()\n|a {x}\n|\n@\n*f()\n|b\n")
        expected = [(sign, 11 + k, ()) for k, sign in enumerate("a {x}\n")]
        self.assertEqual(tangling.springs(web, "f"), (*expected, ("\n", 18, ()), ("b", 27, ()), ("\n", 28, ())))

    def test_a_file_without_lines(self):
        self.assertEqual(tangling.springs(read_web("@\n*f()\n>g()\n@\n=g()\n"), "f"), ())

    def test_arguments_of_arguments(self):
        # 7 ">g(ab)", 22 ">h(-{x},{x}{x})", 49 "|{z}{y}"
        web = read_web("@\n*f()\n>g(ab)\n@\n=g(x)\n>h(-{x},{x}{x})\n@\n=h(y,z)\n|{z}{y}\n")
        way = (7, 22)
        self.assertEqual(tangling.springs(web, "f"), (
            ("a", 10, way), ("b", 11, way), ("a", 10, way), ("b", 11, way), ("-", 25, way), ("a", 10, way),
            ("b", 11, way), ("\n", 55, way)))

    def test_margins_of_uses_in_uses(self):
        # 7 "> g()", 20 ">  h()", 34 "| a", 38 "|"
        web = read_web("@\n*f()\n> g()\n@\n=g()\n>  h()\n@\n=h()\n| a\n|\n")
        way = (7, 20)
        self.assertEqual(tangling.springs(web, "f"), (
            (" ", 8, way), (" ", 21, way), (" ", 22, way), (" ", 35, way), ("a", 36, way), ("\n", 37, way),
            ("\n", 39, way)))

    def test_the_way_of_a_piece_told_in_two_sections(self):
        starts = line_starts(NESTED)
        block, inner = [at for at in starts if web_text(NESTED)[at] == ">"][:2]
        ways = [way for sign, at, way in tangling.springs(NESTED, "main") if sign == "\n"]
        self.assertEqual(ways, [()] + [(block,)] * 2 + [(block, inner)] * 4 + [(block,)])

    def test_the_signs_joined_are_tangled(self):
        for web in MADE_UP + [GREET, NESTED, SHORT]:
            for name in file_names(web):
                told = tangling.springs(web, name)
                self.assertEqual("".join([sign for sign, at, way in told]), tangling.tangled(web, name))
                self.assertEqual(told, file_springs(web, name))

    def test_each_sign_stands_at_its_place(self):
        for web in MADE_UP + [NESTED]:
            text = web_text(web)
            starts = line_starts(web)
            for name in file_names(web):
                for sign, at, way in tangling.springs(web, name):
                    self.assertEqual(sign, text[at])
                    self.assertTrue(all(text[place] == ">" and place in starts for place in way))

    def test_places_of_one_way_and_one_plain_line_ascend(self):
        for web in MADE_UP[:30]:
            plain_places = {}
            for name in file_names(web):
                for sign, at, way in tangling.springs(web, name):
                    section, kind, number, column = told_at(web, at)
                    if web[section][2][number][0] == "plain":
                        plain_places.setdefault((name, way, section, number), []).append(at)
            for places in plain_places.values():
                self.assertEqual(places, sorted(set(places)))


class Places(unittest.TestCase):
    def test_the_document_s_web(self):
        self.assertEqual(tangling.places_of(GREET, 0), ())
        self.assertEqual(tangling.places_of(GREET, 3), (("", 11),))
        self.assertEqual(tangling.places_of(GREET, 11), (("", 23),))
        self.assertEqual(tangling.places_of(GREET, 26), (("main", 6), ("", 43)))
        self.assertEqual(tangling.places_of(GREET, 32), (("main", 14), ("", 53)))
        self.assertEqual(tangling.places_of(GREET, 71), (("main", 8), ("main", 22), ("", 108)))
        self.assertEqual(tangling.places_of(GREET, 80), (("main", 19), ("main", 31), ("", 117)))

    def test_files_in_the_order_of_file_names_then_the_woven_text(self):
        web = read_web("@\n=p()\n|a\n@\n*z()\n>p()\n>p()\n@\n*b()\n> p()\n@\n*q()\n")
        at = place_in(web, 0, "code", 0, 1)
        self.assertEqual(tangling.places_of(web, at), (("z", 0), ("z", 2), ("b", 1), ("", 20)))
        self.assertEqual(tangling.places_of(web, at + 1), (("z", 1), ("z", 3), ("b", 2), ("", 21)))

    def test_a_margin_s_blank_goes_to_each_line_that_is_not_empty(self):
        at = place_in(NESTED, 1, "code", 2, 1)
        told = [place for name, place in tangling.places_of(NESTED, at) if name == "main"]
        lines = tangling.tangled(NESTED, "main").splitlines(True)
        starts = [len("".join(lines[:k])) for k in range(len(lines))]
        self.assertEqual(told, [starts[4] + 2, starts[5] + 2, starts[6] + 2])

    def test_signs_that_go_nowhere(self):
        for at in (0, 1, 2, 6, 7, 10, 11, 14, 18, 19, 20, 21, 22, 24, 29, 30, 39):
            self.assertEqual(tangling.places_of(SHORT, at), (), at)

    def test_every_sign(self):
        for web in [GREET, NESTED, SHORT] + MADE_UP[:25]:
            expected = goes_to(web)
            for at in range(len(web_text(web))):
                self.assertEqual(tangling.places_of(web, at), tuple(expected.get(at, ())), at)

    def test_turned_round_springs(self):
        for web in MADE_UP[:10]:
            for name in file_names(web):
                found = {}
                for place, (sign, at, way) in enumerate(tangling.springs(web, name)):
                    found.setdefault(at, []).append((name, place))
                for at in range(len(web_text(web))):
                    told = [pair for pair in tangling.places_of(web, at) if pair[0] == name]
                    self.assertEqual(told, found.get(at, []))

    def test_no_such_place(self):
        for web in (EMPTY, GREET, CIRCLE, WIDE):
            length = len(web_text(web))
            for at in (-1, -length, -10 ** 30, length, length + 1, 10 ** 30):
                with self.assertRaises(InvalidNumber) as caught:
                    tangling.places_of(web, at)
                self.assertEqual(caught.exception.value, at)

    def test_the_web_without_sections(self):
        self.assertRaises(InvalidNumber, tangling.places_of, EMPTY, 0)

    def test_not_whole(self):
        for web in (CIRCLE, MISSING, WIDE):
            for at in (0, len(web_text(web)) - 1):
                with self.assertRaises(NotWhole) as caught:
                    tangling.places_of(web, at)
                self.assertEqual(caught.exception.fault, faults(web)[0])

    def test_by_name(self):
        self.assertEqual(tangling.places_of(at=3, web=GREET), (("", 11),))


class EachTakesAWeb(unittest.TestCase):
    CALLS = ((tangling.tangled, ("main",)), (tangling.tangled, ("",)), (tangling.springs, ("main",)),
             (tangling.places_of, (0,)), (tangling.places_of, (-1,)))

    def test_invalid_web_ahead_of_all(self):
        for call, rest in self.CALLS:
            for value in NO_WEBS:
                with self.assertRaises(InvalidWeb) as caught:
                    call(value, *rest)
                self.assertIs(caught.exception.value, value, call)
