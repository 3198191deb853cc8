"""[25] and [26]: edits that were made beside one another."""

import copy
import itertools
import random
import unittest

from proseknot.backing import gone_back
from proseknot.edits import changed_by, is_paper, overlaps, shifted
from proseknot.errors import Clash, InvalidEdit, InvalidWeb, NotWhole, NoText, Refused
from proseknot.merging import do_agree, greatest_lot, merged, merged_all, paper_of_two
from proseknot.order import faults
from proseknot.weaving import text_names, text_of
from proseknot.webtext import read_web, web_text
from tests.going_back import all_texts, standing
from tests.reference import whole_web
from tests.samples import EMPTY, GREET, NO_WEBS, WIDE
from tests.texts import MAIN, TEXT, TEXTS, WEB, entries, marked, pairs_of

# Two occurrences of one run in a file, with margins of two blanks and of one.
TWICE = read_web("@\n*f()\n>  p()\n> p()\n@\n=p()\n|a\n|b\n|\n|c\n")

NEWS = ("", "x", "\n", "\n  ", "\n  y", "  ", "\n ", "\n y", " ", "y\n", "y\n  ", "ab")


def act(name, pattern, new):
    """An act on WEB."""
    return (name, marked(TEXTS[name], pattern, new))


def result_of(call, *arguments):
    """What a call returns, or the reason of its Clash."""
    try:
        return call(*arguments)
    except Clash as error:
        return error.reason


def one_behind_other(web, acts):
    """The web to which acts lead in their sequence; raises Clash."""
    acts = list(acts)
    while acts:
        name, edit = acts.pop(0)
        try:
            web, paper = gone_back(web, name, edit)
        except Refused:
            raise Clash("refused")
        acts = [(told, shifted(other, paper, told)) for told, other in acts]
    return web


def merged_of_two(web, one, other):
    """A second way to merge two acts."""
    webs = []
    for first, second in ((one, other), (other, one)):
        shifted(second[1], gone_back(web, *first)[1], second[0])
    for first, second in ((one, other), (other, one)):
        webs.append(one_behind_other(web, (first, second)))
    if webs[0] != webs[1]:
        raise Clash("unlike")
    return webs[0]


def merged_of_all(web, acts):
    """A second way to merge several acts, by all orders."""
    told = [result_of(one_behind_other, web, order) for order in itertools.permutations(acts)]
    if not any(isinstance(web, str) for web in told) and all(web == told[0] for web in told):
        return told[0]
    for one, other in itertools.combinations(acts, 2):
        merged_of_two(web, one, other)
    raise Clash("unlike")


def acts_that_go_back(seed, web, many, news=NEWS):
    dice = random.Random(seed)
    found = []
    for name, text in pairs_of(web):
        for _ in range(many):
            start = dice.randrange(len(text) + 1)
            end = min(len(text), start + dice.choice((0, 0, 1, 1, 2, 3, 5, 8)))
            told = (name, (start, end, dice.choice(news) if dice.randrange(6) else text[start:end]))
            try:
                gone_back(web, *told)
            except Refused:
                continue
            found.append(told)
    return found


class Case(unittest.TestCase):
    maxDiff = None

    def merges(self, one, other, *replaced):
        """The two acts on WEB are merged: in its text each old, which stands there once, is replaced."""
        expected = TEXT
        for old, new in replaced:
            self.assertEqual(TEXT.count(old), 1)
            expected = expected.replace(old, new)
        for first, second in ((one, other), (other, one)):
            self.assertEqual(web_text(merged(WEB, first, second)), expected)
            self.assertIs(do_agree(WEB, first, second), True)
            paper = paper_of_two(WEB, first, second)
            self.assertTrue(is_paper(paper))
            self.assertEqual(changed_by(pairs_of(WEB), paper), tuple(pairs_of(read_web(expected))))
        return paper_of_two(WEB, one, other)

    def clashes(self, reason, web, one, other):
        for first, second in ((one, other), (other, one)):
            for call, arguments in ((merged, (first, second)), (paper_of_two, (first, second)),
                                    (merged_all, ((first, second),)), (merged_all, ([first, second],))):
                with self.assertRaises(Clash) as caught:
                    call(web, *arguments)
                self.assertEqual(caught.exception.reason, reason)
            self.assertIs(do_agree(web, first, second), False)


class Merged(Case):
    def test_edits_of_two_texts(self):
        self.merges(act("main", "[begin]", "start"), act("other", "[stop]", "halt"),
                    ("|begin", "|start"), ("|stop", "|halt"))

    def test_edits_of_one_text(self):
        self.merges(act("main", "[begin]", "a\nb\nc"), act("main", "[end]", "fin"),
                    ("|begin", "|a\n|b\n|c"), ("|end", "|fin"))
        self.merges(act("main", "pr[in]t h", ""), act("main", "[zed]", "longer"),
                    ("|print", "|prt"), (",zed)", ",longer)"))

    def test_edits_of_one_line(self):
        self.merges(act("main", "[be]gin", "X"), act("main", "beg[i]n", "YZ"), ("|begin", "|XgYZn"))
        self.merges(act("main", "[pr]int h", "X"), act("main", "pri[n]t h", "YZ"), ("|print", "|XiYZt"))

    def test_edits_that_meet(self):
        self.merges(act("main", "[be]gin", "X"), act("main", "be[gi]n", "YZ"), ("|begin", "|XYZn"))
        self.merges(act("main", "[begin]", "X"), act("main", "begin[\n]  deep", ""), ("|begin\n|", "|X"))

    def test_edits_of_one_run_in_several_lines(self):
        self.merges(act("main", "  [first]", "X"), act("other", " [third]", "Y"), ("|first", "|X"), ("|third", "|Y"))
        self.merges(act("main", "  [first]", "X\n  Z"), act("", "  [third]", "Y"),
                    ("|first", "|X\n|Z"), ("|third", "|Y"))

    def test_acts_that_change_nothing(self):
        self.merges(act("main", "[begin]", "begin"), act("main", "[end]", "fin"), ("|end", "|fin"))
        self.merges(act("main", "[begin]", "begin"), act("main", "[end]", "end"))
        self.merges(act("main", "[]begin", ""), act("other", "p[]rint p", "X"), ("|print", "|pXrint"))

    def test_acts_of_unlike_runs_and_contents(self):
        self.merges(act("main", "hello[-]a b", "+"), act("main", "hello-[a] b", "A"),
                    ("{x}-{y}", "{x}+{y}"), ("a b)", "A b)"))
        self.merges(act("main", "h[el]lo-", "E"), act("main", "<hello[>]", "}"), ("hello,", "hElo,"), ("{x}>", "{x}}"))
        self.merges(act("", "Prose [one].", "two"), act("", "[begin]", "a\n  b"),
                    ("Prose one", "Prose two"), ("|begin", "|a\n|b"))

    def test_the_acts_stay_as_they_are(self):
        one, other = act("main", "[begin]", "a"), act("main", "[end]", "b")
        kept = copy.deepcopy((one, other))
        merged(web=WEB, other=other, one=one)
        self.assertEqual((one, other), kept)


class Place(Case):
    def test_edits_that_overlap(self):
        for one, other in (("b[eg]in", "be[gi]n"), ("b[eg]in", "[begin]"), ("[be]gin", "b[]egin"),
                           ("[]begin", "[]begin"), ("[be]gin", "[]begin"), ("be[gi]n", "begi[]n")):
            self.clashes("place", WEB, act("main", one, "x"), act("main", other, "y"))

    def test_by_what_follows_in_another_text(self):
        self.clashes("place", WEB, act("main", "fi[r]st", "x"), act("other", "fir[s]t\n\nthird", "y"))
        self.clashes("place", WEB, act("main", "fi[r]st", "x"), act("", "firs[]t", "y"))
        self.clashes("place", WEB, act("main", "pr[in]t", "x"), act("other", "pri[nt] p", "y"))
        self.clashes("place", WEB, act("main", "first\n[]\n  third", "  x"), act("other", " first\n[]\n", " y"))

    def test_by_one_of_the_shiftings_alone(self):
        # In the other text the line feed only meets the line that goes there; in main both its lines go.
        one, other = act("main", "fi[r]st", "x"), act("other", "first[\n]\nthird", "")
        shifted(other[1], gone_back(WEB, *one)[1], other[0])
        self.assertEqual(result_of(shifted, one[1], gone_back(WEB, *other)[1], one[0]), "place")
        self.clashes("place", WEB, one, other)

    def test_acts_that_change_nothing(self):
        self.clashes("place", WEB, act("main", "[begin]", "begin"), act("main", "[b]egin", "x"))
        self.clashes("place", WEB, act("", "[begin]", "begin"), act("main", "[b]egin", "x"))
        self.clashes("place", WEB, act("main", "[]begin", ""), act("main", "[b]egin", "x"))

    def test_ahead_of_refused(self):
        self.clashes("place", WEB, act("main", "[begin]", "b" * 40), act("", "begin[]\n", "b" * 35))


class RefusedTogether(Case):
    def test_too_many_lines(self):
        one, other = act("main", "  [first]", "a\n  b"), act("main", "  [last]", "x\n  y")
        self.merges(one, other, ("|first", "|a\n|b"), ("|last", "|x\n|y"))
        self.clashes("refused", WEB, act("main", "  [first]", "a\n  b\n  c"), other)
        one, other = act("", "Prose [one].", "\n\n"), act("", "Prose [three].", "\n")
        self.merges(one, other, ("one", "\n.\n."), ("three", "\n."))
        self.clashes("refused", WEB, one, act("", "Prose [three].", "\n\n"))

    def test_lines_that_are_too_long(self):
        one = act("main", "[print ]hello", "b" * 20)
        self.merges(one, act("main", "a b[!]", "c" * 13), ("print ", "b" * 20), ("{y}!", "{y}" + "c" * 13))
        self.clashes("refused", WEB, one, act("main", "a b[!]", "c" * 14))

    def test_both_in_one_line(self):
        self.clashes("refused", WEB, act("main", "[be]gin", "b" * 20), act("main", "begi[n]", "c" * 20))

    def test_what_one_order_alone_refuses(self):
        web = read_web("@\n*f()\n>p()\n>  p()\n@\n=p()\n| a\n|  b\n|   c\n")
        self.assertEqual(text_of(web, "f"), " a\n  b\n   c\n   a\n    b\n     c\n")
        one, other = ("f", (25, 26, "  ")), ("f", (22, 25, "\n"))
        self.assertEqual(web_text(one_behind_other(web, (one, other)))[-14:], "| a\n|  b\n|  c\n")
        self.assertEqual(result_of(one_behind_other, web, (other, one)), "refused")
        self.clashes("refused", web, one, other)


class Unlike(Case):
    def test_edits_of_one_run_that_meet_where_lines_have_margins(self):
        self.assertEqual(text_of(TWICE, "f"), "  a\n  b\n\n  c\n a\n b\n\n c\n")
        one, other = ("f", (3, 8, "")), ("f", (19, 20, "  "))
        self.assertNotEqual(one_behind_other(TWICE, (one, other)), one_behind_other(TWICE, (other, one)))
        self.clashes("unlike", TWICE, one, other)


class Errors(Case):
    CALLS = (merged, do_agree, paper_of_two)

    def raises(self, kind, field, value, web, one, other):
        for call in self.CALLS:
            with self.assertRaises(kind) as caught:
                call(web, one, other)
            self.assertEqual(getattr(caught.exception, field), value)

    def test_not_whole(self):
        self.raises(NotWhole, "fault", faults(WIDE)[0], WIDE, ("never", None), ("main", None))

    def test_those_of_one_then_those_of_other(self):
        good, made = act("main", "[begin]", "x"), ("", (0, 0, "x"))
        self.raises(NoText, "name", "never", WEB, ("never", None), ("main", None))
        self.raises(InvalidEdit, "value", None, WEB, ("main", None), ("never", None))
        self.raises(InvalidEdit, "value", [1], WEB, ("main", [1]), made)
        self.raises(Refused, "reason", "made", WEB, made, ("never", None))
        self.raises(NoText, "name", "say", WEB, good, ("say", (0, 0, "")))
        self.raises(InvalidEdit, "value", (0, 999, ""), WEB, good, ("main", (0, 999, "")))
        self.raises(Refused, "reason", "made", WEB, good, made)
        self.raises(Refused, "reason", "margin", WEB, ("main", marked(MAIN, "\n[ ] first", "")), made)

    def test_ahead_of_a_clash(self):
        self.raises(Refused, "reason", "bounds", WEB, act("main", "[end\n]", "x"), act("main", "[end\n]", "x"))
        self.raises(Refused, "reason", "limit", WEB, act("main", "[begin]", "x"), act("main", "[begin]", "x" * 41))

    def test_invalid_web_ahead_of_all(self):
        for call, arguments in ((merged, (None, None)), (do_agree, (None, None)), (paper_of_two, (None, None)),
                                (merged_all, ((),)), (merged_all, ([("main", None)],)), (greatest_lot, ((),)),
                                (greatest_lot, ([("main", None)],))):
            for value in NO_WEBS:
                with self.assertRaises(InvalidWeb) as caught:
                    call(value, *arguments)
                self.assertIs(caught.exception.value, value)

    def test_by_name(self):
        one, other = act("main", "[begin]", "x"), act("main", "[end]", "y")
        self.assertIs(do_agree(other=other, one=one, web=WEB), True)
        self.assertEqual(paper_of_two(other=other, one=one, web=WEB), paper_of_two(WEB, one, other))
        self.assertEqual(merged_all(acts=[one, other], web=WEB), merged(WEB, one, other))
        self.assertEqual(greatest_lot(acts=[one, other], web=WEB), (0, 1))


class PaperOfTwo(Case):
    def test_apart(self):
        paper = self.merges(act("main", "[begin]", "start"), act("other", "[stop]", "halt"),
                            ("|begin", "|start"), ("|stop", "|halt"))
        self.assertEqual(paper, entries(WEB, ("", "[  begin]", "  start"), ("", "[  stop]", "  halt"),
                                        ("main", "[begin]", "start"), ("other", "[stop]", "halt")))

    def test_two_edits_in_one_line_of_a_run(self):
        paper = self.merges(act("main", "fi[r]st", "RR"), act("main", "firs[t]", "T"), ("|first", "|fiRRsT"))
        self.assertEqual(paper, entries(WEB, ("", "[  first]", "  fiRRsT"), ("main", "fi[r]st", "RR"),
                                        ("main", "firs[t]", "T"),
                                        ("other", "[first]\n\nthird", "fiRRsT"), ("other", "[ first]", " fiRRsT")))

    def test_two_edits_that_meet(self):
        paper = self.merges(act("main", "fi[r]st", "RR"), act("main", "fir[s]t", "S"), ("|first", "|fiRRSt"))
        self.assertEqual(paper, entries(WEB, ("", "[  first]", "  fiRRSt"), ("main", "fi[rs]t", "RRS"),
                                        ("other", "[first]\n\nthird", "fiRRSt"), ("other", "[ first]", " fiRRSt")))
        paper = self.merges(act("main", "[begin]", "X"), act("main", "begin[\n]  deep", ""), ("|begin\n|", "|X"))
        self.assertEqual(paper, entries(WEB, ("", "[  begin\n    deep]", "  X  deep"), ("main", "[begin\n]", "X")))

    def test_lines_that_are_taken_by_both(self):
        paper = self.merges(act("main", "firs[t\n]\n  third", ""), act("main", "first\n\n  t[h]ird", "H"),
                            ("|first\n|\n|third", "|firs\n|tHird"))
        self.assertEqual(paper, entries(
            WEB, ("", "[  first\n  ]\n", "  firs"), ("", "[  third]", "  tHird"), ("main", "firs[t\n]\n  third", ""),
            ("main", "  t[h]ird", "H"), ("other", "[first\n]\nthird", "firs"), ("other", "first\n\n[third]", "tHird"),
            ("other", "[ first\n]\n", " firs"), ("other", "[ third]", " tHird")))
        paper = self.merges(act("main", "first[\n\n  t]hird", ""), act("main", "fi[r]st", "R"),
                            ("|first\n|\n|third", "|fiRsthird"))
        self.assertEqual(paper, entries(
            WEB, ("", "[  first\n  \n  third]", "  fiRsthird"), ("main", "fi[r]st", "R"),
            ("main", "first[\n\n  t]hird", ""),
            ("other", "[first\n\nthird]\nprint {x}", "fiRsthird"), ("other", "[ first\n\n third]", " fiRsthird")))

    def test_neighbours_of_one_paper(self):
        web = read_web("@\n*f()\n>p(a)\n|z\n@\n=p(x)\n|{x}{x}-{x}\n")
        one, other = ("f", (0, 1, "bb")), ("f", (5, 6, "y"))
        self.assertEqual([part for part in paper_of_two(web, one, other) if part[0] == "f"],
                         [("f", 0, 2, "bbbb"), ("f", 3, 4, "bb"), ("f", 5, 6, "y")])
        self.assertEqual(gone_back(web, *one)[1][1:], (("f", 0, 1, "bb"), ("f", 1, 2, "bb"), ("f", 3, 4, "bb")))

    def test_beside_an_act_that_changes_nothing(self):
        one, other = act("main", "print [h]ello", "J"), act("main", "[end]", "end")
        paper = self.merges(one, other, ("(hello", "(Jello"))
        self.assertEqual(paper, gone_back(WEB, *one)[1])
        self.assertEqual(merged(WEB, other, other), WEB)
        self.assertEqual(paper_of_two(WEB, other, other), ())

    def test_several_lots_in_one_text(self):
        paper = self.merges(act("main", "print [h]ello", "Jj"), act("main", "print h[e]llo", "aaa"),
                            ("hello,", "Jjaaallo,"))
        self.assertEqual(paper, entries(WEB, ("", "([he]llo", "Jjaaa"), ("main", "print [he]llo", "Jjaaa"),
                                        ("main", "<[he]llo", "Jjaaa")))


class MergedAll(Case):
    def test_no_acts(self):
        for web in (EMPTY, GREET, WEB, WIDE):
            self.assertEqual(merged_all(web, ()), web)
            self.assertEqual(merged_all(web, []), web)

    def test_one_act(self):
        for told in (act("main", "[begin]", "x"), act("", "([hello]", "x"), act("main", "[end]", "end")):
            self.assertEqual(merged_all(WEB, (told,)), gone_back(WEB, *told)[0])
            self.assertEqual(merged_all(WEB, [told]), gone_back(WEB, *told)[0])

    def test_up_to_five(self):
        acts = [act("main", "[be]gin", "A"), act("", "Prose [o]ne", "O"), act("other", " p[r]int p", "R"),
                act("main", "beg[in]", "B\nC"), act("main", "hello-[a] b", "longer")]
        text = TEXT
        for many, (old, new) in enumerate((("|begin", "|Agin"), ("e one", "e One"), ("|print", "|pRint"),
                                           ("|Agin", "|AgB\n|C"), (",a b", ",longer b")), 1):
            text = text.replace(old, new)
            for order in itertools.islice(itertools.permutations(acts[:many]), 0, 120, 7):
                self.assertEqual(web_text(merged_all(WEB, order)), text)
                self.assertEqual(web_text(merged_all(WEB, list(order))), text)

    def test_nothing_that_is_handed_in_is_changed(self):
        acts = [act("main", "[be]gin", "A"), act("main", "beg[in]", "B"), act("main", "[end]", "C")]
        kept = copy.deepcopy(acts)
        merged_all(WEB, acts)
        greatest_lot(WEB, acts)
        self.assertEqual(acts, kept)

    def test_the_first_pair_that_does_not_agree(self):
        two, longer = act("", "[begin]", "b" * 40), act("main", "[begin]", "d" * 40)
        long = act("main", "begin[]\n", "c" * 35)
        many, more = act("main", "  [first]", "a\n  b\n  c"), act("main", "  [last]", "x\n  y")
        end = act("main", "[end]", "x")
        for acts, reason in (((end, many, more, two, longer), "refused"), ((two, longer, many, more), "place"),
                             ((many, two, longer, more), "refused"), ((two, many, longer, more), "place"),
                             ((many, end, two, more, long), "refused"), ((end, two, many, long, more), "place")):
            for told in (acts, list(acts)):
                with self.assertRaises(Clash) as caught:
                    merged_all(WEB, told)
                self.assertEqual(caught.exception.reason, reason, acts)
        one, other, clash = ("f", (3, 8, "")), ("f", (19, 20, "  ")), ("f", (2, 3, "x"))
        self.assertEqual(result_of(merged_all, TWICE, (one, other, clash)), "unlike")
        self.assertEqual(result_of(merged_of_two, TWICE, one, clash), result_of(merged, TWICE, one, clash))

    def test_pairs_that_agree_but_not_all(self):
        acts = (act("main", "  [first]", "a\n  b"), act("main", "  [last]", "x\n  y"), act("main", "thir[d]", "\n  d"))
        for one, other in itertools.combinations(acts, 2):
            self.assertIs(do_agree(WEB, one, other), True)
        for order in itertools.permutations(acts):
            self.assertEqual(result_of(merged_all, WEB, order), "unlike")

    def test_errors_of_the_first_act_that_has_one(self):
        good, never, none, made = act("main", "[end]", "x"), ("never", None), ("main", None), ("", (0, 0, "x"))
        for acts, kind in (((good, never, none), NoText), ((none, never), InvalidEdit),
                           ((good, good, made, none), Refused), ((good, good, none, made), InvalidEdit),
                           ((made,), Refused), ((never,), NoText)):
            self.assertRaises(kind, merged_all, WEB, acts)
            self.assertRaises(kind, merged_all, WEB, list(acts))
        self.assertRaises(NotWhole, merged_all, WIDE, [never])

    def test_as_by_all_orders(self):
        told = {}
        for seed in range(14):
            for web, many in ((TWICE, 40), (whole_web(seed), 25)):
                found = acts_that_go_back(seed, web, many)
                dice = random.Random(seed)
                for number in (2, 3, 3, 4):
                    acts = [dice.choice(found) for _ in range(number)] if found else []
                    expected = result_of(merged_of_all, web, acts) if acts else web
                    self.assertEqual(result_of(merged_all, web, acts), expected, (web, acts))
                    reason = expected if isinstance(expected, str) else "merged"
                    told[reason] = told.get(reason, 0) + 1
        self.assertGreater(min(told["merged"], told["place"]), 20, told)


class GreatestLot(Case):
    MANY = (act("main", "  [first]", "a\n  b"), act("main", "  [last]", "x\n  y"), act("main", "thir[d]", "\n  d"))

    def test_all_and_none(self):
        self.assertEqual(greatest_lot(WEB, ()), ())
        self.assertEqual(greatest_lot(WEB, []), ())
        self.assertEqual(greatest_lot(EMPTY, ()), ())
        acts = [act("main", "[begin]", "x"), act("main", "[end]", "y"), act("other", "[stop]", "z")]
        for told in (acts, tuple(acts)):
            self.assertEqual(greatest_lot(WEB, told), (0, 1, 2))

    def test_ties(self):
        self.assertEqual(greatest_lot(WEB, self.MANY), (0, 1))
        same = act("main", "[begin]", "x")
        self.assertEqual(greatest_lot(WEB, (same, same, same)), (0,))
        self.assertEqual(greatest_lot(WEB, (same, act("main", "[end]", "x"), same, act("main", "[end]", "y"))), (0, 1))

    def test_the_greatest_goes_ahead_of_the_first(self):
        whole = act("main", "[begin]", "x")
        parts = [act("main", "[b]egin", "B"), act("main", "be[g]in", "G"), act("main", "begi[n]", "N")]
        self.assertEqual(greatest_lot(WEB, [whole] + parts), (1, 2, 3))
        self.assertEqual(greatest_lot(WEB, parts[:1] + [whole] + parts[1:]), (0, 2, 3))

    def test_acts_that_do_not_go_back_are_in_none(self):
        good = [act("main", "[begin]", "x"), act("main", "[end]", "y")]
        bad = [("never", (0, 0, "")), ("say", (0, 0, "")), ("main", None), ("main", [0, 0, ""]),
               ("main", (0, 10 ** 9, "")),
               ("", (0, 0, "x")), act("main", "[end\n]", "x"), act("main", "[begin]", "x" * 41)]
        for wrong in bad:
            self.assertEqual(greatest_lot(WEB, [wrong]), ())
            self.assertEqual(greatest_lot(WEB, (wrong, good[0], wrong, good[1])), (1, 3))

    def test_not_whole(self):
        for acts in ([("main", (0, 0, ""))], (("never", None),)):
            with self.assertRaises(NotWhole) as caught:
                greatest_lot(WIDE, acts)
            self.assertEqual(caught.exception.fault, faults(WIDE)[0])

    def test_as_by_all_parts(self):
        for seed in range(12):
            web = (TWICE, whole_web(seed))[seed % 2]
            found = acts_that_go_back(seed, web, 40)
            dice = random.Random(seed)
            acts = [dice.choice(found) for _ in range(4)] if found else []
            lots = [lot for many in range(5) for lot in itertools.combinations(range(len(acts)), many)]
            taken = [lot for lot in lots
                     if not lot or not isinstance(result_of(merged_of_all, web, [acts[k] for k in lot]), str)]
            expected = min(taken, key=lambda lot: (-len(lot), lot))
            self.assertEqual(greatest_lot(web, acts), expected)


def place_of_change(texts, told):
    """The run or content in which an act is."""
    name, edit = told
    return standing(texts[name], *edit[:2])[0]


class MadeUp(Case):
    def check(self, web, one, other):
        """Merges two acts that go back, and tells how that ends."""
        expected = result_of(merged_of_two, web, one, other)
        self.assertEqual(result_of(merged, web, one, other), expected, (web, one, other))
        self.assertEqual(result_of(merged, web, other, one), expected)
        paper = result_of(paper_of_two, web, one, other)
        self.assertEqual(result_of(paper_of_two, web, other, one), paper)
        self.assertIs(do_agree(web, one, other), not isinstance(expected, str))
        if isinstance(expected, str):
            self.assertEqual(paper, expected)
            return expected
        self.assertTrue(is_paper(paper))
        self.assertEqual(tuple(pairs_of(expected)), changed_by(pairs_of(web), paper), (web, one, other))
        self.check_paper(web, one, other, paper)
        return "merged"

    def check_paper(self, web, one, other, paper):
        """The paper's edits are lots of those of both papers, and no two of them meet."""
        both = gone_back(web, *one)[1] + gone_back(web, *other)[1]
        lots = []
        for name in text_names(web):
            spans = sorted(part[1:3] for part in both if part[0] == name)
            while spans:
                start, end = spans.pop(0)
                while spans and spans[0][0] <= end:
                    end = max(end, spans.pop(0)[1])
                lots.append((name, start, end))
        self.assertEqual([part[:3] for part in paper], sorted(lots))

    def test_acts_on_webs_that_are_made_up(self):
        told = {}
        for seed in range(16):
            for web, many in ((TWICE, 60), (whole_web(seed), 30)):
                dice = random.Random(seed)
                found = acts_that_go_back(seed, web, many)
                for _ in range(10 if found else 0):
                    reason = self.check(web, dice.choice(found), dice.choice(found))
                    told[reason] = told.get(reason, 0) + 1
        self.assertGreater(min(told["merged"], told["place"]), 50, told)

    def test_acts_in_one_run(self):
        told = {}
        found = acts_that_go_back(5, TWICE, 150)
        dice = random.Random(5)
        for _ in range(250):
            one = dice.choice(found)
            near = [other for other in found if other[0] == one[0] and (other[1][0] == one[1][1])]
            reason = self.check(TWICE, one, dice.choice(near or found))
            told[reason] = told.get(reason, 0) + 1
        self.assertGreater(min(told["merged"], told["place"]), 20, told)

    def test_unlike_runs_and_contents_whose_papers_do_not_overlap(self):
        many = 0
        for seed in range(30):
            web = whole_web(seed)
            texts = all_texts(web)[1]
            dice = random.Random(seed)
            found = acts_that_go_back(seed, web, 30, ("", "x", "ab", "\n", " "))
            for _ in range(10 if found else 0):
                one, other = dice.choice(found), dice.choice(found)
                papers = [gone_back(web, *told)[1] for told in (one, other)]
                if () in papers or place_of_change(texts, one) == place_of_change(texts, other):
                    continue
                if not any(a[0] == b[0] and overlaps(a[1:], b[1:]) for a, b in itertools.product(*papers)):
                    many += 1
                    self.assertIs(do_agree(web, one, other), True, (web, one, other))
        self.assertGreater(many, 50)
