"""[18] to [22]: edits that go back into the web, why others do not, papers, and edits that lead back."""

import copy
import random
import unittest

from proseknot.backing import back_edit, gone_back, undone_by
from proseknot.edits import changed_by, edited, is_paper, shifted
from proseknot.errors import InvalidEdit, InvalidWeb, NotWhole, NoText, Refused
from proseknot.order import faults
from proseknot.tangling import places_of, springs
from proseknot.weaving import text_names, text_of, woven_springs
from proseknot.webs import is_web
from proseknot.webtext import read_web, web_text
from tests.going_back import Told, all_texts, goes_back, holder, standing
from tests.reference import whole_web
from tests.samples import EMPTY, GREET, NO_WEBS, WIDE
from tests.test_edits import NO_EDITS
from tests.texts import MAIN, OTHER, TEXT, TEXTS, WEB, entries, marked, pairs_of

# The signs of edits that are tried on webs that are made up.
NEWS = ("", "", "a", " ", "\n", "{x}", "{", "}", "  ", "\n  a", "\n a", "a\n", "{a}", "b\n   c", "  a\n", "a" * 20,
        "a" * 41, ",", "(", "\n\n", "\n  \n", "   \n   ", "ab", "b ")


def outcome(web, name, edit):
    """What gone_back returns, or why it refuses."""
    try:
        return gone_back(web, name, edit)
    except Refused as error:
        return error.reason


def made_up_edits(seed, web, many):
    """Edits of the texts of a web, each behind the text's name."""
    dice = random.Random(seed)
    for name, text in pairs_of(web):
        for _ in range(many):
            start = dice.randrange(len(text) + 1)
            end = min(len(text), start + dice.choice((0, 0, 1, 1, 2, 3, 4, 5, 8, 12, 20)))
            yield name, (start, end, dice.choice(NEWS) if dice.randrange(5) else text[start:end])


class Hand(unittest.TestCase):
    """What the other tests of this file say of WEB."""

    maxDiff = None

    def goes(self, name, pattern, new, old, instead):
        """The edit goes back: in the web's text, old, which stands there once, is replaced."""
        edit = marked(TEXTS[name], pattern, new)
        told, paper = gone_back(WEB, name, edit)
        self.assertEqual(TEXT.count(old), 1, old)
        self.assertEqual(web_text(told), TEXT.replace(old, instead))
        self.assertTrue(is_paper(paper))
        self.assertIn((name,) + edit, paper)
        self.assertEqual(changed_by(pairs_of(WEB), paper), tuple(pairs_of(told)))
        return paper

    def refuses(self, reason, name, pattern, *news):
        for new in news:
            edit = marked(TEXTS[name], pattern, new)
            for call in (gone_back, back_edit, undone_by):
                with self.assertRaises(Refused, msg=(pattern, new)) as caught:
                    call(WEB, name, edit)
                self.assertEqual(caught.exception.reason, reason, (pattern, new))

    def test_the_texts(self):
        for name, text in TEXTS.items():
            self.assertEqual(text_of(WEB, name), text)


class Example(unittest.TestCase):
    def test_the_document_s(self):
        new, paper = gone_back(GREET, "main", (8, 13, "tell"))
        self.assertEqual(text_of(new, "main"), "begin\n  tell hello\n  tell bye\n")
        self.assertEqual(paper, entries(GREET, ("", "[print]", "tell"), ("main", "[print] hello", "tell"),
                                        ("main", "[print] bye", "tell")))
        self.assertEqual(web_text(new), web_text(GREET).replace("print", "tell"))


class Errors(unittest.TestCase):
    CALLS = (gone_back, back_edit, undone_by)

    def raises(self, kind, field, value, *arguments):
        for call in self.CALLS:
            with self.assertRaises(kind) as caught:
                call(*arguments)
            self.assertEqual(getattr(caught.exception, field), value)

    def test_not_whole_ahead_of_all_but_the_web(self):
        for name, edit in (("main", (0, 0, "x")), ("never", (0, 0, "x")), ("", None), ("never", None)):
            self.raises(NotWhole, "fault", faults(WIDE)[0], WIDE, name, edit)

    def test_no_text_ahead_of_the_edit(self):
        for name in ("say", "never", "-"):
            self.raises(NoText, "name", name, WEB, name, (0, 0, "x"))
            self.raises(NoText, "name", name, WEB, name, [None])

    def test_values_that_are_no_edits(self):
        for value in NO_EDITS:
            self.raises(InvalidEdit, "value", value, WEB, "main", value)
            self.raises(InvalidEdit, "value", value, EMPTY, "", value)

    def test_end_beyond_the_text(self):
        for name, text in TEXTS.items():
            for start, end in ((0, len(text) + 1), (len(text) + 1, len(text) + 1), (0, 10 ** 30)):
                self.raises(InvalidEdit, "value", (start, end, ""), WEB, name, (start, end, ""))

    def test_the_text_s_end_is_within_it(self):
        for name, text in TEXTS.items():
            self.assertEqual(outcome(WEB, name, (len(text), len(text), "x")), "made")

    def test_invalid_web_ahead_of_all(self):
        for call in self.CALLS:
            for value in NO_WEBS:
                with self.assertRaises(InvalidWeb) as caught:
                    call(value, "never", None)
                self.assertIs(caught.exception.value, value)

    def test_by_name(self):
        edit = (8, 13, "tell")
        self.assertEqual(gone_back(edit=edit, name="main", web=GREET), gone_back(GREET, "main", edit))
        self.assertEqual(back_edit(edit=edit, name="main", web=GREET), (71, 76, "tell"))
        self.assertEqual(undone_by(edit=edit, name="main", web=GREET), (8, 12, "print"))

    def test_nothing_that_is_handed_in_is_changed(self):
        value = [0, [0], ("x", ["y"])]
        kept = copy.deepcopy(value)
        for call in self.CALLS:
            self.assertRaises(InvalidEdit, call, WEB, "main", value)
        self.assertEqual(value, kept)


class Made(Hand):
    def test_made_signs_of_the_woven_text(self):
        for pattern in ("[S]ection 1.", "Sectio[n 2].", "Section 1.[\n]", "[f]ile main", "main[(]) is", "main()[ i]s",
                        "say([x],y)", "say(x,y[)] is", "<sa[y 3]>(hello", "say 3>[(]hello", "hello[,]a b",
                        "a b[)]", "a b)[\n]", "[Used in] 1,", "Used in [1], 2.", "Index[\n]", "[I]ndex", "main: [1].",
                        "[tell]: 5."):
            self.refuses("made", "", pattern, "", "x")

    def test_names_of_pieces(self):
        for pattern in ("file [main]() is", "[s]ay(x,y) is", "[tell](t,u) is"):
            self.refuses("made", "", pattern, "", "x")

    def test_blanks_ahead_of_code_lines_of_no_run(self):
        for pattern in ("third\n[ ] print", "third\n [ ]print", "third[\n  ]print", "[  ]   <tell", "end\nSection 2.\n"
                        "file other() is\n[ ] <say 3>({x}"):
            self.refuses("made", "", pattern, "", "x")

    def test_ahead_of_all_other_reasons(self):
        # The first signs stand in contents, runs and margins.
        for pattern in ("Prose th[ree.\nf]ile", "begin\n  [  deep\n    <]say", "hell[o,a] b", "[ ] {t} {u}\nU",
                        "[   <]say 3>(p"):
            self.refuses("made", "", pattern, "", "x\n", ",")

    def test_empty_edits_within_margins_and_ahead_of_them(self):
        for pattern in (" [] first", "\n[]  first", "\n[]  third", " [] print hello", "    [] <hello", "[]     <hello"):
            self.refuses("made", "main", pattern, "", "x")
        for pattern in ("\n[]  begin", " [] begin", "[]    deep", " []   deep", "  [] <say 3>(p", "   []<say 3>(p",
                        "[]   <say 3>(p", "[]  {t}", " [] {t}", "[]  \n", " [] \n  third"):
            self.refuses("made", "", pattern, "", "x")

    def test_empty_edits_that_nothing_takes_up(self):
        for pattern in ("Sec[]tion 1", "[]Section 1", "Section 1.[]", "ma[]in() is", "file []main", "main[]() is",
                        "<say 3>[](hello", "<say[] 3>(hello", "[]Used in 1, 2.", "<{[]x}>,z", "print {x[]}", "{[]y}!",
                        "{t[]} {u}", "{t} {u}[]", "hello,a b)[]", "zed)[]", "[]Index", "tell: 5.\n[]", "<{x[]}>,z"):
            self.refuses("made", "", pattern, "", "x", "\n")

    def test_empty_edits_that_would_change_nothing(self):
        self.assertEqual(outcome(EMPTY, "", (0, 0, "")), "made")
        self.assertEqual(outcome(read_web("@\n*f()\n"), "f", (0, 0, "")), "made")
        self.assertEqual(outcome(WEB, "", (0, 0, "")), "made")


class Margin(Hand):
    def test_margins_and_indents(self):
        for pattern in ("\n[ ] print hello", "\n [ ]print hello", "\n[  ]first", "\n[ ] first", "[  ]last",
                        "\n[     ]<hello", "    [ ]<hello"):
            self.refuses("margin", "main", pattern, "", "x", " ", "  ", "\n")
        self.refuses("margin", "", "[ ]<say 3>(p", "", "  ")
        self.refuses("margin", "", "  [   ]<tell", "", "  ")
        self.refuses("margin", "", "\n[  ]  deep", "", "  ")
        self.refuses("margin", "", "\n [ ]  deep", "", "  ")

    def test_with_the_line_feed_ahead_in_lines_of_no_run(self):
        for pattern in ("third[\n ] print", "third[\n  ]print", "b![\n  ]   <hello", "b![\n ]    <"):
            self.refuses("margin", "main", pattern, "", "\n  ")

    def test_with_the_line_feed_ahead_in_lines_of_a_run(self):
        self.goes("", "begin[\n  ]  deep", "", "|begin\n|  deep\n", "|begin  deep\n")
        self.goes("", "begin[\n ]   deep", "", "|begin\n|  deep\n", "|begin   deep\n")
        self.goes("", "begin[\n]    deep", "", "|begin\n|  deep\n", "|begin    deep\n")
        self.goes("main", "first\n[\n  ]third", "  ", "|\n|third\n", "|third\n")

    def test_of_the_first_line_of_a_run_it_is_bounds(self):
        self.refuses("bounds", "main", "zed[\n  ]last", "", "\n  ")
        self.refuses("bounds", "main", "zed[\n ] last", "\n ")

    def test_at_the_beginning_of_a_file(self):
        web = read_web("@\n*f()\n>  p()\n@\n=p()\n|a\n|b\n")
        self.assertEqual(outcome(web, "f", (0, 1, " ")), "margin")
        self.assertEqual(outcome(web, "f", (0, 3, "  x")), "margin")
        self.assertEqual(outcome(web, "f", (2, 3, "x"))[0], read_web(web_text(web).replace("|a", "|x")))

    def test_ahead_of_bounds(self):
        self.refuses("margin", "main", "thi[rd\n  pr]int", "", "\n")
        self.refuses("margin", "main", "dee[p\n  first\n\n  third\n  print h]ello", "")


class Bounds(Hand):
    def test_signs_of_two_contents(self):
        self.refuses("bounds", "main", "pri[nt hel]lo", "", "nt hel")
        self.refuses("bounds", "main", "hello[-a] b", "", "\n")
        self.refuses("bounds", "main", "[<hello>] zed", "x")
        self.refuses("bounds", "other", "p[-q!]", "")

    def test_a_content_and_a_run(self):
        web = read_web("@\n*f()\n>p(a)\n@\n=p(x)\n|b\n|{x}-\n|c\n")
        self.assertEqual(text_of(web, "f"), "b\na-\nc\n")
        for start, end in ((0, 3), (1, 4), (0, 4), (3, 6), (4, 6), (2, 5), (0, 6)):
            self.assertEqual(outcome(web, "f", (start, end, "x")), "bounds")

    def test_line_feeds_of_lines_of_no_run(self):
        self.refuses("bounds", "main", "b![\n]", "", "\n")
        self.refuses("bounds", "", "{u}[\n]", "", "\n")

    def test_the_last_line_feed_of_a_run(self):
        self.refuses("bounds", "main", "end[\n]", "", "x\n")
        self.refuses("bounds", "main", "deep[\n]", "", "\n")
        self.refuses("bounds", "main", "dee[p\n]", "p\n")
        self.refuses("bounds", "", "three.[\n]", "", "\n")
        self.refuses("bounds", "", "    deep[\n]", "\n")

    def test_runs_of_two_sections_or_of_one_parted_by_a_use(self):
        web = read_web("@\n*f()\n|a\n>p()\n|b\n@\n*f()\n|c\n@\n=p()\n")
        for start, end in ((0, 3), (1, 2), (2, 5), (3, 4)):
            self.assertEqual(outcome(web, "f", (start, end, "x")), "bounds")

    def test_slots_of_the_woven_text(self):
        for pattern in ("print [{x}]-", "[{]y}!", "{[y]}!", "[{t} {u}]", "<[{x}]>,zed", "(<[{]x", "{u[}]\n", "{[t]}"):
            self.refuses("bounds", "", pattern, "", "z")

    def test_two_occurrences_of_one_content(self):
        web = read_web("@\n*f()\n>p(ab)\n@\n=p(x)\n|{x}{x}\n")
        self.assertEqual(outcome(web, "f", (1, 3, "")), "bounds")
        self.assertEqual(outcome(web, "f", (0, 4, "abab")), "bounds")
        self.assertEqual(outcome(web, "f", (2, 4, "c"))[1],
                         entries(web, ("", "([ab])", "c"), ("f", "[ab]ab", "c"), ("f", "ab[ab]", "c")))

    def test_two_occurrences_of_one_run(self):
        web = read_web("@\n*f()\n>p()\n>p()\n@\n=p()\n|a\n|b\n")
        self.assertEqual(outcome(web, "f", (2, 5, "")), "bounds")
        self.assertEqual(outcome(web, "f", (0, 3, "c"))[1],
                         entries(web, ("", "[  a\n  b]", "  c"), ("f", "[a\nb]\na", "c"), ("f", "b\n[a\nb]", "c")))

    def test_ahead_of_line(self):
        self.refuses("bounds", "main", "pri[nt hel]lo", "\n")


class Line(Hand):
    def test_line_feeds_in_contents(self):
        for name, pattern in (("main", "pr[in]t h"), ("main", "hello-[a] b"), ("main", "print h[]ello"),
                              ("main", "[zed]"), ("", "({x},[y])"), ("", "}[-]{y}!"), ("", "(p,[]q)")):
            self.refuses("line", name, pattern, "\n", "x\n", "\n  y", "\n\n")

    def test_ahead_of_shape_and_slot_and_limit(self):
        self.refuses("line", "main", "hello-[a] b", ",\n", "\n" * 41)
        self.refuses("line", "main", "pr[in]t h", "{x}\n")


class Prefix(Hand):
    def test_new_lines_without_the_margin(self):
        self.refuses("prefix", "main", "fir[]st", "\n", "\nx", "\n x", "\n  x\ny")
        self.refuses("prefix", "main", "first\n[]\n  third", "x", " ", " x", "  ", "\n  ", "\n  \n")
        self.refuses("prefix", "", "    [d]eep", "x\n", "\n y", "\n")
        self.refuses("prefix", "", "[begin]", "a\n\n  b", "\n")

    def test_a_margin_that_goes(self):
        self.refuses("prefix", "main", "first\n[\n  ]third", "\n", "\n ", "  x\n")
        self.refuses("prefix", "main", "first[\n\n ] third", "\n")

    def test_a_line_that_would_be_a_margin_alone(self):
        self.refuses("prefix", "main", "  [last]", "")
        self.refuses("prefix", "main", "  [first]\n\n  third", "")
        self.refuses("prefix", "main", "first[\n]\n  third", "\n  \n")

    def test_without_a_margin_any_line_is_let(self):
        self.goes("main", "[begin]", "", "|begin\n", "|\n")
        self.goes("main", "[begin]", "\n\n a", "|begin\n", "|\n|\n| a\n")
        self.goes("", "[Prose one.]", "\n", ".Prose one.\n", ".\n.\n")

    def test_lines_that_are_empty_in_files(self):
        self.goes("main", "first[\n]\n  third", "\n\n", "|first\n|\n", "|first\n|\n|\n")
        self.goes("main", "  [first]\n\n  third", "x\n", "|first\n|\n", "|x\n|\n|\n")
        self.goes("main", "  [first]\n\n  third", "x\n\n  y", "|first\n", "|x\n|\n|y\n")

    def test_lines_of_blanks_alone(self):
        self.goes("main", "  [last]", " ", "|last\n", "| \n")
        self.goes("main", "first\n[]\n  third", "   ", "|\n|third", "| \n|third")
        self.goes("", "    [deep]", "", "|  deep\n", "|  \n")
        self.goes("", "[begin]", "", "|begin\n", "|\n")
        self.goes("", "[begin]", "\n  ", "|begin\n", "|\n|\n")

    def test_ahead_of_slot_and_limit(self):
        self.refuses("prefix", "main", "fir[]st", "{x}\n", "a" * 41 + "\n" + "b")


class Shape(Hand):
    def test_arguments_that_would_be_none(self):
        for name, pattern in (("main", "print [hello]-"), ("main", "<[hello]>"), ("", "([hello],a b)"),
                              ("", "(p,[q])")):
            self.refuses("shape", name, pattern, "", " ", "a,b", "(", "a)", " a", "a ", ",")
        self.refuses("shape", "main", "hello-[a] b", "", " a")
        self.refuses("shape", "main", "hello-a[] b!", ",")
        self.refuses("shape", "main", "hello-a [b]!", "")
        self.refuses("shape", "main", "[<]hello", ",", " ", " <")
        self.refuses("shape", "main", "hello[>]", "> ", ")")

    def test_parts_of_arguments_may_go(self):
        self.goes("main", "[<]hello", "", ">   tell(<{x}>,zed)", ">   tell({x}>,zed)")
        self.goes("main", "[<]hello", "a <", ">   tell(<{x}>,zed)", ">   tell(a <{x}>,zed)")
        self.goes("other", "<p[>]", " .", ">   tell(<{x}>,zed)", ">   tell(<{x} .,zed)")

    def test_plain_lines_may_have_all_signs(self):
        self.goes("main", "pri[nt] hello", " ,()", "|print {x}-{y}!", "|pri ,() {x}-{y}!")
        self.goes("main", "[begin]", "(,) ", "|begin", "|(,) ")

    def test_ahead_of_slot_and_limit(self):
        self.refuses("shape", "main", "[<]hello", "{y},", "," * 41)


class Slot(Hand):
    def test_slots_that_would_come_up(self):
        self.refuses("slot", "main", "fi[rs]t", "{x}", "{y}", "a{x}b")
        self.refuses("slot", "main", "first\n[]\n  third", "  {x}", "  {y}\n")
        self.refuses("slot", "main", "pr[]int hello", "{x}", "{y}")
        self.refuses("slot", "main", "hello[-]a b", "{x}", "-{y}", "{x}{y}")
        self.refuses("slot", "main", "[<]hello", "{x}", "<{y}")
        self.refuses("slot", "main", "<hello> [zed]", "{x}", "z{y}d")
        self.refuses("slot", "", "  [third]\n  print", "{x}")

    def test_slots_made_of_what_stands_and_what_is_new(self):
        web = read_web("@\n*f()\n>p(a)\n@\n=p(x)\n|{x-\n|{x}{x-}\n")
        text = text_of(web, "f")
        self.assertEqual(text, "{x-\na{x-}\n")
        self.assertEqual(outcome(web, "f", (2, 3, "}")), "slot")
        self.assertEqual(outcome(web, "f", (7, 8, "")), "slot")
        self.assertEqual(outcome(web, "f", (7, 8, "x"))[0], read_web(web_text(web).replace("{x-}", "{xx}")))

    def test_braces_beside_slots_and_other_words_in_braces(self):
        self.goes("main", "print []hello", "{", "|print {x}-{y}!", "|print {{x}-{y}!")
        self.goes("main", "hello[-]a b", "}{", "|print {x}-{y}!", "|print {x}}{{y}!")
        self.goes("main", "fi[rs]t", "{t}", "|first", "|fi{t}t")
        self.goes("main", "[begin]", "{x}", "|begin", "|{x}")

    def test_a_part_beside_a_slot_may_become_empty(self):
        self.goes("main", "[print ]hello", "", "|print {x}-{y}!", "|{x}-{y}!")
        self.goes("main", "hello[-]a b", "", "|print {x}-{y}!", "|print {x}{y}!")
        self.goes("main", "<hello>[ ]zed", "", "|{t} {u}", "|{t}{u}")
        self.goes("", "(<{x}[>],zed", "", "<{x}>,zed", "<{x},zed")

    def test_prose_has_no_slots(self):
        web = read_web("@\n.a\n*f()\n>p(a)\n@\n.b\n=p(x)\n|{x}\n")
        start = text_of(web, "").index("b\np(x)")
        self.assertEqual(outcome(web, "", (start, start, "{x}"))[0], read_web(web_text(web).replace(".b", ".{x}b")))

    def test_ahead_of_limit(self):
        self.refuses("slot", "main", "fi[rs]t", "{x}" + "a" * 40)
        self.refuses("slot", "main", "pr[]int hello", "{x}" + "a" * 40)


class Limit(Hand):
    def test_lines_of_forty_signs(self):
        self.goes("main", "[begin]", "b" * 40, "|begin", "|" + "b" * 40)
        self.refuses("limit", "main", "[begin]", "b" * 41)
        self.goes("main", "  [last]", "b" * 40, "|last", "|" + "b" * 40)
        self.refuses("limit", "main", "  [last]", "b" * 41)
        self.goes("", "[No code here.]", "b" * 40, ".No code here.", "." + "b" * 40)
        self.refuses("limit", "", "[No code here.]", "b" * 41, "\n" + "b" * 41)

    def test_plain_lines_with_slots(self):
        self.goes("main", "[print ]hello", "b" * 32, "|print {x}-{y}!", "|" + "b" * 32 + "{x}-{y}!")
        self.refuses("limit", "main", "[print ]hello", "b" * 33)

    def test_arguments_each_by_itself(self):
        self.goes("main", "print [hello]-", "b" * 40, "say(hello,a b)", "say(" + "b" * 40 + ",a b)")
        self.refuses("limit", "main", "print [hello]-", "b" * 41)
        self.goes("main", "[<]hello", "b" * 36, "tell(<{x}>", "tell(" + "b" * 36 + "{x}>")
        self.refuses("limit", "main", "[<]hello", "b" * 37)

    def test_sections_of_six_lines_of_prose(self):
        self.goes("", "one.\n[]\nProse", "\n\n\n", ".\n.Prose three", "." + "\n." * 4 + "Prose three")
        self.refuses("limit", "", "one.\n[]\nProse", "\n\n\n\n")

    def test_sections_of_eight_lines_of_code(self):
        self.goes("main", "[begin]", "\n\n\n\n", "|begin", "|\n|\n|\n|\n|")
        self.refuses("limit", "main", "[begin]", "\n\n\n\n\n")
        self.goes("main", "  [last]", "a\n  b\n  c", "|last", "|a\n|b\n|c")
        self.refuses("limit", "main", "  [last]", "a\n  b\n  c\n  d")

    def test_the_text_may_have_longer_lines(self):
        web = read_web("@\n*f()\n>" + " " * 20 + "p(" + "a" * 40 + ")\n@\n=p(x)\n|" + "b" * 37 + "{x}\n")
        edit = marked(text_of(web, "f"), "[b]" + "b" * 36, "c")
        self.assertEqual(outcome(web, "f", edit)[0], read_web(web_text(web).replace("|b", "|c")))


class Empty(Hand):
    def test_within_contents(self):
        self.goes("main", "pr[]int hello", "X", "|print {x}", "|prXint {x}")
        self.goes("main", "hello-a[] b", "X", "a b)", "aX b)")
        self.goes("", "(p,[]q)", "X", "say(p,q)", "say(p,Xq)")

    def test_between_two_contents_it_is_the_one_that_ends(self):
        self.goes("main", "print []hello-", "X", "|print {x}-{y}!", "|print X{x}-{y}!")
        self.goes("main", "hello[]-a b", "X", "say(hello,a b)", "say(helloX,a b)")
        self.goes("main", "hello-[]a b", "X", "|print {x}-{y}!", "|print {x}-X{y}!")
        self.goes("main", "a b[]!", "X", "say(hello,a b)", "say(hello,a bX)")
        self.goes("main", "<[]hello>", "X", "(<{x}>,zed)", "(<X{x}>,zed)")
        self.goes("main", "<hello[]>", "X", "say(hello,a b)", "say(helloX,a b)")
        self.goes("main", "<hello>[] zed", "X", "(<{x}>,zed)", "(<{x}>X,zed)")

    def test_where_nothing_ends_it_is_the_one_that_begins(self):
        self.goes("main", "  []print hello", "X", "|print {x}", "|Xprint {x}")
        self.goes("main", "     []<hello", "X", "(<{x}>,zed)", "(X<{x}>,zed)")
        self.goes("", "<say 3>([]hello", "X", "say(hello,a b)", "say(Xhello,a b)")
        self.goes("", "hello,[]a b)", "X", "say(hello,a b)", "say(hello,Xa b)")
        self.goes("", "{x}[]-{y}!", "X", "{x}-{y}!", "{x}X-{y}!")
        self.goes("", "{t}[] {u}", "X", "|{t} {u}", "|{t}X {u}")

    def test_at_the_end_of_an_argument_in_the_woven_text(self):
        self.goes("", "hello[],a b)", "X", "say(hello,a b)", "say(helloX,a b)")
        self.goes("", "hello,a b[])", "X", "say(hello,a b)", "say(hello,a bX)")

    def test_at_both_ends_of_lines_of_runs(self):
        self.goes("main", "[]begin", "X", "|begin", "|Xbegin")
        self.goes("main", "begin[]", "X", "|begin", "|beginX")
        self.goes("main", "  []first", "X", "|first", "|Xfirst")
        self.goes("main", "first[]", "\n  X", "|first", "|first\n|X")
        self.goes("", "[]Prose one.", "X\n", ".Prose one.", ".X\n.Prose one.")
        self.goes("", "  []begin", "X\n  ", "|begin", "|X\n|begin")
        self.goes("", "begin\n  []  deep", "X", "|  deep", "|X  deep")

    def test_on_empty_lines(self):
        self.goes("main", "first\n[]\n  third", "  X", "|\n|third", "|X\n|third")
        self.goes("other", "[]\nthird\nprint {x}", "X", "|\n|third", "|X\n|third")
        self.goes("", "first\n  []\n  third", "X", "|\n|third", "|X\n|third")
        self.goes("", "Prose one.\n[]\nProse", "X", ".\n.Prose three", ".X\n.Prose three")

    def test_between_lines_it_is_at_an_end_of_one(self):
        paper = self.goes("", "begin[]\n    deep", "\n  X", "|begin\n", "|begin\n|X\n")
        self.assertIn(("main", 0, 5, "begin\nX"), paper)


class Runs(Hand):
    def test_within_a_line(self):
        paper = self.goes("main", "fi[rs]t", "RS", "|first", "|fiRSt")
        self.assertEqual(paper, entries(WEB, ("", "[  first]", "  fiRSt"), ("main", "fi[rs]t", "RS"),
                                        ("other", "[first]\n\nthird", "fiRSt"), ("other", "[ first]", " fiRSt")))

    def test_over_several_lines(self):
        old = "|first\n|\n|third\n"
        self.goes("main", "fir[st\n\n  th]ird", "-", old, "|fir-ird\n")
        self.goes("main", "fir[st\n\n  th]ird", "\n  a\n\n  b", old, "|fir\n|a\n|\n|bird\n")
        self.goes("main", "first[\n\n]  third", "", old, "|first  third\n")
        self.goes("main", "first[\n\n ] third", "\n ", old, "|first\n|third\n")
        self.goes("", "[first\n  \n  third]", "", old, "|\n")

    def test_prose(self):
        old = ".Prose one.\n.\n.Prose three.\n"
        pattern = "Pros[e one.\n\nProse t]hree."
        paper = self.goes("", pattern, "e {x}", old, ".Prose {x}hree.\n")
        self.assertEqual(paper, entries(WEB, ("", pattern, "e {x}")))
        self.goes("", "one.[\n]\nProse", "", old, ".Prose one.\n.Prose three.\n")
        self.goes("", "one.\n[\n]Prose", "", old, ".Prose one.\n.Prose three.\n")

    def test_from_the_line_that_has_the_start_to_the_one_that_has_the_end(self):
        # A line feed is its own line's, so the place behind it is the next line's.
        paper = self.goes("", "  first[\n]  \n  third", "", "|first\n|\n", "|first  \n")
        self.assertIn(("other", 0, 6, "first  "), paper)
        paper = self.goes("main", "first\n[\n]  third", "", "|\n|third\n", "|third\n")
        self.assertIn(("other", 6, 12, "third"), paper)
        paper = self.goes("main", "first[]\n", "\n  x", "|first\n", "|first\n|x\n")
        self.assertIn(("other", 0, 5, "first\nx"), paper)

    def test_margins_of_each_occurrence(self):
        paper = self.goes("main", "th[]ird", "\n\n  ", "|third\n", "|th\n|\n|ird\n")
        self.assertEqual(paper, entries(
            WEB, ("", "[  third]", "  th\n  \n  ird"), ("main", "th[]ird", "\n\n  "),
            ("other", "first\n\n[third]", "th\n\nird"), ("other", "[ third]", " th\n\n ird")))

    def test_an_empty_line_that_is_filled(self):
        paper = self.goes("other", "first\n[]\nthird", "x", "|\n|third", "|x\n|third")
        self.assertEqual(paper, entries(
            WEB, ("", "first\n[  ]\n", "  x"), ("main", "first\n[]\n", "  x"), ("other", "first\n[]\nthird", "x"),
            ("other", " first\n[]\n", " x")))

    def test_a_line_that_is_emptied(self):
        paper = self.goes("other", "[first]\n\nthird", "", "|first", "|")
        self.assertEqual(paper, entries(WEB, ("", "[  first]", "  "), ("main", "[  first]", ""),
                                        ("other", "[first]\n\nthird", ""), ("other", "[ first]", "")))

    def test_code_of_files(self):
        self.assertEqual(self.goes("main", "[begin\n]  deep", "", "|begin\n", ""),
                         entries(WEB, ("", "[  begin\n    deep]", "    deep"), ("main", "[begin\n]", "")))


class Contents(Hand):
    def test_parts_beside_slots(self):
        paper = self.goes("main", "hello[-]a b", "+", "|print {x}-{y}!", "|print {x}+{y}!")
        self.assertEqual(paper, entries(WEB, ("", "{x}[-]{y}", "+"), ("main", "hello[-]a b", "+"),
                                        ("other", "{x}[-]y", "+"), ("other", "p[-]q", "+")))

    def test_within_a_content_only_its_signs_are_taken(self):
        paper = self.goes("other", " p[rin]t p-q", "ai", "|print {x}", "|pait {x}")
        self.assertEqual(paper, entries(WEB, ("", "p[rin]t", "ai"), ("main", "p[rin]t", "ai"),
                                        ("other", "p[rin]t {x}", "ai"), ("other", "p[rin]t p", "ai")))

    def test_arguments_at_several_places(self):
        expected = entries(WEB, ("", "h[ell]o", "all"), ("main", "print h[ell]o", "all"), ("main", "<h[ell]o", "all"))
        for name, pattern in (("main", "print h[ell]o"), ("main", "<h[ell]o"), ("", "(h[ell]o")):
            self.assertEqual(self.goes(name, pattern, "all", "say(hello,a b)", "say(hallo,a b)"), expected)

    def test_arguments_of_files_that_look_like_slots(self):
        paper = self.goes("other", "print [{x}]-y", "z", "say({x},y)", "say(z,y)")
        self.assertEqual(paper, entries(WEB, ("", "([{x}],y)", "z"), ("other", "print [{x}]", "z"),
                                        ("other", "<[{x}]>", "z")))

    def test_arguments_that_are_filled_in_nowhere(self):
        web = read_web("@\n*f()\n>p(ab)\n@\n=p(x)\n|a\n")
        at = text_of(web, "").index("ab)")
        self.assertEqual(gone_back(web, "", (at, at + 1, "A")),
                         (read_web("@\n*f()\n>p(Ab)\n@\n=p(x)\n|a\n"), (("", at, at + 1, "A"),)))

    def test_arguments_of_arguments(self):
        web = read_web("@\n*f()\n>p(a,b)\n@\n=p(x,y)\n>q({x}-{x},{y})\n@\n=q(u,v)\n|{u}{v}\n|{v}{u}\n")
        self.assertEqual(text_of(web, "f"), "a-ab\nba-a\n")
        new, paper = gone_back(web, "f", (7, 8, "+"))
        self.assertEqual(web_text(new), web_text(web).replace("{x}-{x}", "{x}+{x}"))
        self.assertEqual([part[1:] for part in paper if part[0] == "f"], [(1, 2, "+"), (7, 8, "+")])
        new, paper = gone_back(web, "f", (8, 9, "cd"))
        self.assertEqual(text_of(new, "f"), "cd-cdb\nbcd-cd\n")
        self.assertEqual([part[1:] for part in paper if part[0] == "f"],
                         [(0, 1, "cd"), (2, 3, "cd"), (6, 7, "cd"), (8, 9, "cd")])

    def test_neighbours(self):
        web = read_web("@\n*f()\n>p(a)\n@\n=p(x)\n|{x}{x}{x}\n")
        self.assertEqual(gone_back(web, "f", (1, 1, "b"))[1][1:],
                         (("f", 1, 1, "b"), ("f", 2, 2, "b"), ("f", 3, 3, "b")))
        self.assertEqual(gone_back(web, "f", (0, 0, "b"))[1][1:],
                         (("f", 0, 0, "b"), ("f", 1, 1, "b"), ("f", 2, 2, "b")))
        self.assertEqual(gone_back(web, "f", (1, 2, "cc"))[1][1:],
                         (("f", 0, 1, "cc"), ("f", 1, 2, "cc"), ("f", 2, 3, "cc")))


class NothingChanges(Hand):
    def test_the_same_signs(self):
        for name, pattern, new in (("main", "[begin]", "begin"), ("main", "[]begin", ""), ("main", "[]end", ""),
                                   ("main", "first[\n\n  th]ird", "\n\n  th"), ("", "(hello[],a b)", ""),
                                   ("", "(p,[q])", "q"), ("main", "hello[-]a b", "-"), ("", "one.\n[]\n", "")):
            edit = marked(TEXTS[name], pattern, new)
            self.assertEqual(gone_back(WEB, name, edit), (WEB, ()))
            self.assertEqual(back_edit(WEB, name, edit), (0, 0, ""))
            self.assertEqual(undone_by(WEB, name, edit), edit)

    def test_it_is_refused_as_any_other(self):
        self.refuses("made", "", "[Section 1]", "Section 1")
        self.refuses("margin", "main", "[  ]first", "  ")
        self.refuses("bounds", "main", "hello[-a] b", "-a")


class BackEdit(Hand):
    def leads(self, name, pattern, new, expected):
        edit = marked(TEXTS[name], pattern, new)
        told = back_edit(WEB, name, edit)
        self.assertEqual(told, expected)
        self.assertEqual(edited(TEXT, told), web_text(gone_back(WEB, name, edit)[0]))

    def test_what_changes_alone(self):
        at = TEXT.index("begin")
        self.leads("main", "[begin]", "began", (at + 3, at + 4, "a"))
        self.leads("main", "[begin]", "begin!", (at + 5, at + 5, "!"))
        self.leads("main", "[begin]", "gin", (at, at + 2, ""))

    def test_the_beginning_ahead_of_the_end(self):
        at = TEXT.index("hello")
        self.leads("main", "print hel[]lo", "l", (at + 4, at + 4, "l"))
        self.leads("main", "print he[l]lo", "", (at + 3, at + 4, ""))
        at = TEXT.index("third")
        self.leads("main", "  []third", "third\n  ", (at + 7, at + 7, "third\n|"))

    def test_lines(self):
        at = TEXT.index("first")
        self.leads("main", "fir[st\n\n  th]ird", "-", (at + 3, at + 11, "-"))


class UndoneBy(Hand):
    def undoes(self, name, pattern, new, expected):
        edit = marked(TEXTS[name], pattern, new)
        told = undone_by(WEB, name, edit)
        self.assertEqual(told, expected)
        self.assertEqual(gone_back(gone_back(WEB, name, edit)[0], name, told)[0], WEB)

    def test_moved_by_the_edits_ahead_in_the_same_text(self):
        self.undoes("main", "[begin]", "go", (0, 2, "begin"))
        at = MAIN.index("hello") + 1
        self.undoes("main", "print h[ell]o", "A", (at, at + 1, "ell"))
        # The other occurrence stands ahead and loses two signs.
        at = MAIN.index("<hello") + len("<h") - 2
        self.undoes("main", "<h[ell]o>", "A", (at, at + 1, "ell"))
        at = OTHER.index("print p") + 1 + 2
        self.undoes("other", " p[rin]t p", "PRINT", (at, at + 5, "rin"))
        at = OTHER.index(" third") + 1
        self.undoes("other", " [t]hird", "", (at - 1, at - 1, "t"))

    def test_edits_that_meet_ahead(self):
        web = read_web("@\n*f()\n>p(a)\n@\n=p(x)\n|{x}{x}{x}\n")
        self.assertEqual(undone_by(web, "f", (1, 2, "bcd")), (3, 6, "a"))
        self.assertEqual(undone_by(web, "f", (3, 3, "bcd")), (9, 12, ""))
        self.assertEqual(undone_by(web, "f", (0, 0, "bcd")), (0, 3, ""))

    def test_an_empty_line_of_a_file_with_a_margin_may_not_come_back(self):
        edit = marked(MAIN, "first\n[]\n  third", "  x")
        told = undone_by(WEB, "main", edit)
        self.assertEqual(told, (edit[0], edit[0] + 3, ""))
        self.assertEqual(outcome(gone_back(WEB, "main", edit)[0], "main", told), "margin")

    def test_the_beginning_of_a_content_that_is_taken_away_may_not_come_back(self):
        edit = marked(MAIN, "hello[-]a b", "")
        new = gone_back(WEB, "main", edit)[0]
        told = undone_by(WEB, "main", edit)
        self.assertEqual(told, (edit[0], edit[0], "-"))
        self.assertEqual(web_text(gone_back(new, "main", told)[0]),
                         TEXT.replace("say(hello", "say(hello-").replace("{x}-{y}", "{x}{y}"))


def is_indent(web, at):
    """Whether a place in the web's text is one of a use's indent, from which margins come."""
    line = web_text(web)[:at + 1].split("\n")[-1]
    return line[:1] == ">" and line[1:] != "" and line[1:].strip(" ") == ""


def may_not_come_back(text, name, edit):
    """Whether an edit that goes back is one of those that undone_by may not lead back."""
    occurrence = standing(text, *edit[:2])
    if occurrence in text.contents:
        return edit[2] == "" and edit[0] == occurrence[1]
    return name != "" and occurrence[1] != "" and any(start == feed == edit[0] for start, feed in occurrence[2])


class MadeUp(unittest.TestCase):
    """Edits of webs that are made up, beside a second way to go back."""

    def test_as_the_second_way(self):
        told = set()
        for seed in range(30):
            web = whole_web(seed)
            known = all_texts(web)
            for name, edit in made_up_edits(seed, web, 40):
                expected = goes_back(web, name, edit, known)
                self.assertEqual(outcome(web, name, edit), expected, (seed, name, edit))
                told.add(expected if isinstance(expected, str) else "back")
        self.assertEqual(told, {"back", "made", "margin", "bounds", "line", "prefix", "shape", "slot", "limit"})

    def test_all_edits_of_two_small_webs(self):
        for text in ("@\n.a\n.\n*f()\n>  p(k)\n@\n=p(x)\n|\n| b\n|{x}-\n",
                     "@\n*f()\n> p(j)\n@\n=p(x)\n>q({x}+)\n|\n@\n=q(y)\n|{y}\n"):
            web = read_web(text)
            known = all_texts(web)
            for name, told in pairs_of(web):
                for start in range(len(told) + 1):
                    for end in range(start, min(len(told), start + 7) + 1):
                        for new in ("", "c", "\n  ", "{x}"):
                            edit = (start, end, new)
                            self.assertEqual(outcome(web, name, edit), goes_back(web, name, edit, known), edit)

    def test_the_texts_are_changed_by_the_paper(self):
        for seed in range(100, 140):
            web = whole_web(seed)
            for name, edit in made_up_edits(seed, web, 40):
                told = outcome(web, name, edit)
                if not isinstance(told, str):
                    new, paper = told
                    self.assertTrue(is_web(new) and is_paper(paper))
                    self.assertEqual(text_names(new), text_names(web))
                    self.assertEqual(tuple(pairs_of(new)), changed_by(pairs_of(web), paper))
                    self.assertEqual(paper == (), new == web)
                    self.assertTrue(paper == () or (name,) + edit in paper)
                    self.assertEqual(web_text(new), edited(web_text(web), back_edit(web, name, edit)))

    def test_the_paper_has_all_places_of_the_signs_that_go(self):
        many = 0
        for seed in range(400, 420):
            web = whole_web(seed)
            for name, edit in made_up_edits(seed, web, 30):
                told = outcome(web, name, edit)
                if not isinstance(told, str) and told[1]:
                    signs = springs(web, name) if name else woven_springs(web)
                    came = [sign[1] for sign in signs[edit[0]:edit[1]]]
                    came = [at for at in came if at is not None and not is_indent(web, at)]
                    for text, place in [pair for at in came for pair in places_of(web, at)]:
                        many += 1
                        self.assertTrue(any(part[0] == text and part[1] <= place < part[2] for part in told[1]))
        self.assertGreater(many, 500)

    def test_unlike_webs_have_unlike_texts(self):
        for name, pattern in (("main", "fi[rs]t"), ("main", "hello-[a] b"), ("other", "[print ]p"), ("", "one.\n[]\n")):
            found = {}
            for new in NEWS:
                told = outcome(WEB, name, marked(TEXTS[name], pattern, new))
                if not isinstance(told, str):
                    found.setdefault(tuple(pairs_of(told[0])), set()).add(told[0])
            self.assertGreater(len(found), 5)
            self.assertTrue(all(len(webs) == 1 for webs in found.values()))

    def test_what_undone_by_leads_back(self):
        for seed in range(200, 225):
            web = whole_web(seed)
            texts = all_texts(web)[1]
            for name, edit in made_up_edits(seed, web, 40):
                told = outcome(web, name, edit)
                if not isinstance(told, str) and not may_not_come_back(texts[name], name, edit):
                    undone = undone_by(web, name, edit)
                    self.assertEqual(gone_back(told[0], name, undone)[0], web, (seed, name, edit))

    def test_undone_by_is_where_the_edit_came_to_stand(self):
        for seed in range(300, 320):
            web = whole_web(seed)
            for name, edit in made_up_edits(seed, web, 30):
                told = outcome(web, name, edit)
                if not isinstance(told, str):
                    others = tuple(part for part in told[1] if part != (name,) + edit)
                    start, end, old = undone_by(web, name, edit)
                    self.assertEqual(start, shifted((edit[0], edit[1], ""), others, name)[0])
                    self.assertEqual(text_of(told[0], name)[start:end], edit[2])
                    self.assertEqual(old, text_of(web, name)[edit[0]:edit[1]])

    def test_each_content_and_run_occurs_in_the_woven_text_once(self):
        for seed in range(12):
            web = whole_web(seed)
            told, texts = all_texts(web)
            self.assertEqual([found[0] for found in texts[""].contents], told.contents)
            self.assertEqual([found[0] for found in texts[""].runs], told.runs)
            self.assertEqual(Told(web).contents, told.contents)
            for at in range(len(texts[""].signs)):
                self.assertEqual(holder(texts[""], at) is None, outcome(web, "", (at, at, "")) == "made")
