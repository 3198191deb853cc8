"""[23] and [24]: names and structure."""

import copy
import random
import unittest

from proseknot import structure
from proseknot.errors import InvalidNumber, InvalidWeb, KnotError, NoPiece, NotWhole, Refused, Undefined
from proseknot.order import faults, is_whole
from proseknot.tangling import tangled
from proseknot.webs import file_names, is_web, piece_names
from proseknot.webtext import read_web, web_text
from tests.reference import tangle_of_uses, whole_web
from tests.samples import EMPTY, GREET, LARGE, NO_WEBS, WIDE, plain, use

BEYOND = (-1, -7, -10 ** 30, 10 ** 30)


def files_of(web):
    return {name: tangled(web, name) for name in file_names(web)}


class Case(unittest.TestCase):
    def raises(self, kind, field, value, call, *arguments):
        with self.assertRaises(kind) as caught:
            call(*arguments)
        self.assertEqual(getattr(caught.exception, field), value, arguments)


class Renamed(Case):
    TEXT = "@\n*main()\n|say()\n>say(hello,{say})\n@\n.say\n=say(x,say)\n|{say}\n>sayer()\n@\n=say(x,say)\n>say(a)\n"

    def test_heads_and_uses(self):
        self.assertEqual(structure.renamed(read_web(self.TEXT), "say", "tell"), read_web(
            "@\n*main()\n|say()\n>tell(hello,{say})\n@\n.say\n=tell(x,say)\n|{say}\n>sayer()\n"
            "@\n=tell(x,say)\n>tell(a)\n"))

    def test_files(self):
        self.assertEqual(structure.renamed(GREET, "main", "a"), read_web(web_text(GREET).replace("*main", "*a")))

    def test_to_its_own_name(self):
        for web in (GREET, WIDE, read_web(self.TEXT)):
            for name in piece_names(web):
                self.assertEqual(structure.renamed(web, name, name), web)

    def test_to_a_name_that_is_only_used(self):
        web = structure.renamed(WIDE, "other", "nowhere")
        self.assertEqual(web[:7], WIDE[:7])
        self.assertEqual(web[7], ((), ("nowhere", (), True), ()))

    def test_no_piece_ahead_of_the_new_name(self):
        for name in ("gone", "", "never", "nowhere"):
            for new in ("say", "", "fine", "gone"):
                self.raises(NoPiece, "name", name, structure.renamed, WIDE, name, new)
        self.raises(NoPiece, "name", "a", structure.renamed, EMPTY, "a", "b")

    def test_names_that_are_refused(self):
        for new in ("main", "deep", "other", "", "A", "a1", "abcdefghi", "a b", "a\n", "-", "\xe9", " a"):
            self.raises(Refused, "reason", "name", structure.renamed, WIDE, "say", new)

    def test_files_stay_but_for_their_names(self):
        for seed in range(40):
            web = whole_web(seed)
            for name in piece_names(web):
                new = structure.renamed(web, name, "brandnew")
                self.assertTrue(is_web(new) and is_whole(new))
                expected = {("brandnew" if told == name else told): text for told, text in files_of(web).items()}
                self.assertEqual(files_of(new), expected)
                self.assertEqual(structure.renamed(new, "brandnew", name), web)

    def test_by_name(self):
        self.assertEqual(structure.renamed(new="say", web=GREET, name="say"), GREET)


class Sections(Case):
    SECTION = (("new",), ("fresh", (), False), (plain("x"),))

    def test_added_anywhere_and_at_the_end(self):
        for web in (EMPTY, GREET, WIDE, LARGE):
            for number in range(len(web) + 1):
                expected = list(web)
                expected.insert(number, self.SECTION)
                self.assertEqual(structure.section_added(web, number, self.SECTION), tuple(expected))

    def test_added_beyond_the_end(self):
        for web in (EMPTY, GREET, WIDE):
            for number in BEYOND + (len(web) + 1,):
                for section in (self.SECTION, None, []):
                    self.raises(InvalidNumber, "value", number, structure.section_added, web, number, section)

    def test_added_values_that_are_no_sections(self):
        for section in NO_WEBS + ((), (None, None, ()), ((), None, (plain(""),)), [(), None, ()], ((), None, []),
                                  GREET[0] + ((),), ((), ("A", (), False), ()), ((chr(37),), None, ())):
            self.raises(Refused, "reason", "head", structure.section_added, GREET, 1, section)

    def test_added_heads_unlike_others(self):
        for head in (("say", (), False), ("say", ("y",), False), ("say", ("x", "y"), False), ("say", (), True),
                     ("main", (), False)):
            self.raises(Refused, "reason", "head", structure.section_added, GREET, 0, ((), head, ()))
        section = ((), ("say", ("x",), False), ())
        self.assertEqual(structure.section_added(GREET, 0, section), (section,) + GREET)

    def test_added_to_webs_that_are_not_whole_or_long(self):
        section = (("p" * 90,) * 9, None, ())
        self.assertEqual(structure.section_added(WIDE, 3, section), WIDE[:3] + (section,) + WIDE[3:])

    def test_nothing_that_is_handed_in_is_changed(self):
        section = [["a"], None, [["plain", "x"]]]
        kept = copy.deepcopy(section)
        self.assertRaises(Refused, structure.section_added, GREET, 0, section)
        self.assertEqual(section, kept)

    def test_dropped(self):
        self.assertEqual(structure.section_dropped(GREET, 0), GREET[1:])
        self.assertEqual(structure.section_dropped(GREET, 1), GREET[:1])
        self.assertEqual(structure.section_dropped(GREET[:1], 0), EMPTY)
        self.assertEqual(structure.section_dropped(WIDE, 4), WIDE[:4] + WIDE[5:])

    def test_dropped_and_added_lead_back(self):
        for web in (GREET, WIDE, LARGE):
            for number, section in enumerate(web):
                dropped = structure.section_dropped(web, number)
                self.assertEqual(structure.section_added(dropped, number, section), web)
                added = structure.section_added(web, number, self.SECTION)
                self.assertEqual(structure.section_dropped(added, number), web)

    def test_dropped_where_there_is_none(self):
        for web in (EMPTY, GREET, WIDE):
            for number in BEYOND + (len(web),):
                self.raises(InvalidNumber, "value", number, structure.section_dropped, web, number)

    def test_moved(self):
        web = tuple([((line,), None, ()) for line in "abc"])
        for number, to, expected in ((0, 0, (0, 1, 2)), (0, 1, (1, 0, 2)), (0, 2, (1, 2, 0)), (1, 0, (1, 0, 2)),
                                     (1, 2, (0, 2, 1)), (2, 0, (2, 0, 1)), (2, 1, (0, 2, 1)), (2, 2, (0, 1, 2))):
            told = structure.section_moved(web, number, to)
            self.assertEqual(told, tuple([web[k] for k in expected]), (number, to))

    def test_moved_there_and_back(self):
        for web in (GREET, WIDE, LARGE):
            for number in range(len(web)):
                for to in range(len(web)):
                    moved = structure.section_moved(web, number, to)
                    self.assertEqual(moved[to], web[number])
                    self.assertEqual(structure.section_moved(moved, to, number), web)

    def test_moved_where_there_is_none(self):
        for wrong in BEYOND + (len(GREET),):
            self.raises(InvalidNumber, "value", wrong, structure.section_moved, GREET, wrong, 0)
            self.raises(InvalidNumber, "value", wrong, structure.section_moved, GREET, 0, wrong)
            self.raises(InvalidNumber, "value", wrong, structure.section_moved, GREET, wrong, -3)
        self.raises(InvalidNumber, "value", 0, structure.section_moved, EMPTY, 0, 0)

    def test_files_stay_where_no_section_of_the_name_is_passed(self):
        dice = random.Random(1)
        for seed in range(60):
            web = whole_web(seed)
            number, to = dice.randrange(len(web)), dice.randrange(len(web))
            passed = web[min(number, to):max(number, to) + 1]
            names = [head[0] for prose, head, code in passed if head is not None]
            head = web[number][1]
            if head is None or names.count(head[0]) == 1:
                self.assertEqual(files_of(structure.section_moved(web, number, to)), files_of(web))

    def test_by_name(self):
        self.assertEqual(structure.section_added(section=self.SECTION, number=0, web=EMPTY), (self.SECTION,))
        self.assertEqual(structure.section_dropped(number=0, web=(self.SECTION,)), EMPTY)
        self.assertEqual(structure.section_moved(to=1, number=0, web=GREET), (GREET[1], GREET[0]))


class Filled(Case):
    def fills(self, text, section, number, expected):
        web = read_web(text)
        told = structure.use_filled(web, section, number)
        self.assertEqual(web_text(told), expected)
        self.assertEqual(files_of(told), files_of(web))

    def refuses(self, reason, text, section, number):
        self.raises(Refused, "reason", reason, structure.use_filled, read_web(text), section, number)

    def test_the_document_s_example(self):
        self.assertEqual(web_text(structure.use_filled(GREET, 0, 1)),
                         web_text(GREET).replace(">  say(hello)", "|  print hello"))

    def test_indents_and_empty_lines(self):
        inner = "@\n=p()\n|a\n|\n| b\n|  \n>   q()\n>q()\n@\n=q()\n"
        self.fills("@\n*f()\n|1\n>  p()\n|2\n" + inner, 0, 1,
                   "@\n*f()\n|1\n|  a\n|\n|   b\n|    \n>     q()\n>  q()\n|2\n" + inner)
        self.fills("@\n*f()\n>p()\n" + inner, 0, 0, "@\n*f()\n|a\n|\n| b\n|  \n>   q()\n>q()\n" + inner)

    def test_a_piece_in_several_sections_and_one_without_code(self):
        rest = "@\n=p()\n|a\n@\n.x\n@\n=p()\n|b\n"
        self.fills("@\n*f()\n> p()\n" + rest, 0, 0, "@\n*f()\n| a\n| b\n" + rest)
        self.fills("@\n*f()\n> p()\n@\n=p()\n", 0, 0, "@\n*f()\n@\n=p()\n")

    def test_arguments(self):
        inner = "@\n=p(x,y)\n|{x}{y}{x}\n>q({y},{x}-{z})\n@\n=q(a,b)\n|{a}{b}\n"
        self.fills("@\n*f()\n>p(one,two 2)\n" + inner, 0, 0,
                   "@\n*f()\n|onetwo 2one\n>q(two 2,one-{z})\n" + inner)

    def test_no_slot_is_looked_for_in_what_was_filled_in(self):
        inner = "@\n=p(x,y)\n|{x}{y}\n"
        self.fills("@\n*f()\n>p({y},{x})\n" + inner, 0, 0, "@\n*f()\n|{y}{x}\n" + inner)

    def test_arguments_with_slots(self):
        outer = "@\n*f()\n>g(s,t)\n@\n=g(x,y)\n"
        inner = "@\n=p(x,z)\n|{x}-{x}\n>q({x}.{x})\n@\n=q(y)\n|{y}\n"
        self.fills(outer + ">p({y}{x},{x})\n" + inner, 1, 0,
                   outer + "|{y}{x}-{y}{x}\n>q({y}{x}.{y}{x})\n" + inner)
        # The second argument comes in nowhere and takes its slots along.
        self.fills(outer + ">p(a,{x}{y})\n" + inner, 1, 0, outer + "|a-a\n>q(a.a)\n" + inner)

    def test_slots_that_did_not_come_in_with_an_argument(self):
        outer = "@\n*f()\n>g(s)\n@\n=g(y)\n"
        self.refuses("slot", outer + ">p(a)\n@\n=p(x)\n|{y}\n", 1, 0)
        self.refuses("slot", outer + ">p({y})\n@\n=p(x)\n|{x}{y}\n", 1, 0)
        self.refuses("slot", outer + ">p(a)\n@\n=p(x)\n>q({y})\n@\n=q(z)\n|{z}\n", 1, 0)
        self.refuses("slot", outer + ">p({y})\n@\n=p(x)\n|a\n|b{y}\n", 1, 0)

    def test_slots_that_come_up_of_parts(self):
        outer = "@\n*f()\n>g(s)\n@\n=g(y)\n"
        for argument, line in (("y", "{{x}}"), ("{y", "{x}}"), ("y}", "{{x}"), ("{", "{x}y}"), ("}", "{y{x}")):
            self.refuses("slot", outer + ">p(" + argument + ")\n@\n=p(x)\n|" + line + "\n", 1, 0)
        self.refuses("slot", outer + ">p({,y})\n@\n=p(x,z)\n|{x}{z}\n", 1, 0)
        # In a file these are no slots, and a slot in braces is one that came in whole.
        inner = "@\n=p(x)\n|{{x}}\n"
        self.fills("@\n*f()\n>p(y)\n" + inner, 0, 0, "@\n*f()\n|{y}\n" + inner)
        self.fills(outer + ">p({y})\n" + inner, 1, 0, outer + "|{{y}}\n" + inner)

    def test_shape(self):
        def text(indent):
            return "@\n*f()\n>" + " " * indent + "p()\n@\n=p()\n|a\n>           q()\n@\n=q()\n"
        self.fills(text(9), 0, 0, "@\n*f()\n|         a\n>" + " " * 20 + "q()\n" + text(9)[text(9).index("@\n=p"):])
        self.refuses("shape", text(10), 0, 0)
        self.refuses("shape", text(20), 0, 0)

    def test_slot_ahead_of_shape(self):
        text = "@\n*f()\n>g(s)\n@\n=g(y)\n>" + " " * 20 + "p()\n@\n=p()\n> q()\n|{y}\n@\n=q()\n"
        self.refuses("slot", text, 1, 0)

    def test_results_beyond_the_limits(self):
        web = read_web("@\n*f()\n" + ">          p()\n" * 8 + "@\n=p()\n" + ("|" + "b" * 40 + "\n") * 8)
        for k in range(8):
            web = structure.use_filled(web, 0, 8 * k)
        self.assertEqual(web[0][2], (plain(" " * 10 + "b" * 40),) * 64)

    def test_no_use_there(self):
        for section, number in ((0, 0), (0, 3), (0, -1), (0, -2), (1, 0), (1, 1), (2, 0), (-1, 0), (-2, 1),
                                (0, 10 ** 30), (10 ** 30, 0)):
            self.raises(Undefined, "what", "use", structure.use_filled, GREET, section, number)
        self.raises(Undefined, "what", "use", structure.use_filled, EMPTY, 0, 0)
        self.raises(Undefined, "what", "use", structure.use_filled, read_web("@\n.a\n"), 0, 0)

    def test_not_whole_ahead_of_all(self):
        for section, number in ((3, 0), (3, 1), (6, 0), (99, 0), (-1, -1)):
            self.raises(NotWhole, "fault", faults(WIDE)[0], structure.use_filled, WIDE, section, number)

    def test_webs_that_are_made_up(self):
        told = {"slot": 0, "shape": 0, "filled": 0}
        for seed in range(120):
            web = whole_web(seed)
            for section, (prose, head, code) in enumerate(web):
                for number, line in enumerate(code):
                    if line[0] == "use":
                        try:
                            new = structure.use_filled(web, section, number)
                        except Refused as error:
                            told[error.reason] += 1
                        else:
                            told["filled"] += 1
                            self.assertTrue(is_web(new) and is_whole(new))
                            self.assertEqual(files_of(new), files_of(web))
        self.assertTrue(told["slot"] and told["filled"], told)

    def test_by_name(self):
        self.assertEqual(structure.use_filled(number=1, section=0, web=GREET), structure.use_filled(GREET, 0, 1))


class SplitOff(Case):
    def splits(self, text, section, number, many, expected):
        web = read_web(text)
        told = structure.split_off(web, section, number, many, "new")
        self.assertEqual(web_text(told), expected)
        if is_whole(web):
            self.assertEqual(files_of(told), files_of(web))

    def test_lines_of_a_file(self):
        text = "@\n*f()\n|a\n|{x}\n|\n| b\n@\n.c\n"
        self.splits(text, 0, 0, 1, "@\n*f()\n>new()\n|{x}\n|\n| b\n@\n.c\n@\n=new()\n|a\n")
        self.splits(text, 0, 1, 2, "@\n*f()\n|a\n>new()\n| b\n@\n.c\n@\n=new()\n|{x}\n|\n")
        self.splits(text, 0, 0, 4, "@\n*f()\n>new()\n@\n.c\n@\n=new()\n|a\n|{x}\n|\n| b\n")

    def test_params_in_their_order(self):
        head = "@\n*f()\n>g(1,2,3)\n@\n=g(a,b,c)\n"
        text = head + "|x\n|{c}\n|{b}{c}{b}\n|{a}\n"
        self.splits(text, 1, 0, 1, head + ">new()\n|{c}\n|{b}{c}{b}\n|{a}\n@\n=new()\n|x\n")
        self.splits(text, 1, 1, 1, head + "|x\n>new({c})\n|{b}{c}{b}\n|{a}\n@\n=new(c)\n|{c}\n")
        self.splits(text, 1, 1, 2, head + "|x\n>new({b},{c})\n|{a}\n@\n=new(b,c)\n|{c}\n|{b}{c}{b}\n")
        self.splits(text, 1, 0, 4, head + ">new({a},{b},{c})\n@\n=new(a,b,c)\n|x\n|{c}\n|{b}{c}{b}\n|{a}\n")

    def test_params_that_stand_in_arguments_alone(self):
        head = "@\n*f()\n>g(1,2,3)\n@\n=g(a,b,c)\n"
        rest = "@\n=h(y,z)\n|{y}{z}\n"
        self.splits(head + ">  h(-{c}{c},x)\n>h({z},y)\n>h(b,{b})\n" + rest, 1, 0, 3,
                    head + ">new({b},{c})\n" + rest + "@\n=new(b,c)\n>  h(-{c}{c},x)\n>h({z},y)\n>h(b,{b})\n")
        self.splits(head + ">h({z},y)\n" + rest, 1, 0, 1, head + ">new()\n" + rest + "@\n=new()\n>h({z},y)\n")

    def test_other_sections_of_the_piece_stay(self):
        self.splits("@\n=g(a)\n|1{a}\n@\n=g(a)\n|2{a}\n|3\n@\n*f()\n>g(x)\n", 1, 0, 1,
                    "@\n=g(a)\n|1{a}\n@\n=g(a)\n>new({a})\n|3\n@\n*f()\n>g(x)\n@\n=new(a)\n|2{a}\n")

    def test_webs_that_are_not_whole(self):
        self.splits("@\n=g()\n>g()\n>new()\n", 0, 1, 1, "@\n=g()\n>g()\n>new()\n@\n=new()\n>new()\n")
        told = structure.split_off(WIDE, 3, 0, 3, "new")
        self.assertEqual(told[3], ((), WIDE[3][1], (use(0, "new"),)))
        self.assertEqual(told[8], ((), ("new", (), False), WIDE[3][2]))

    def test_invalid_section_ahead_of_all(self):
        for section in BEYOND + (2,):
            self.raises(InvalidNumber, "value", section, structure.split_off, GREET, section, -9, -8, "")

    def test_invalid_number_ahead_of_many(self):
        for number in BEYOND + (3,):
            self.raises(InvalidNumber, "value", number, structure.split_off, GREET, 0, number, -8, "")
        self.raises(InvalidNumber, "value", 0, structure.split_off, read_web("@\n.a\n"), 0, 0, 7, "")
        self.raises(InvalidNumber, "value", 0, structure.split_off, read_web("@\n=a()\n"), 0, 0, 1, "b")

    def test_invalid_many_ahead_of_the_name(self):
        for many in BEYOND + (0, 4):
            self.raises(InvalidNumber, "value", many, structure.split_off, GREET, 0, 0, many, "")
        for number, many in ((0, 4), (1, 3), (2, 2)):
            self.raises(InvalidNumber, "value", many, structure.split_off, GREET, 0, number, many, "main")

    def test_names_that_are_refused(self):
        for name in ("main", "say", "", "A", "a1", "abcdefghi", "a b", "-", "a\n"):
            self.raises(Refused, "reason", "name", structure.split_off, GREET, 0, 0, 3, name)

    def test_files_stay(self):
        dice = random.Random(2)
        for seed in range(100):
            web = whole_web(seed)
            for section, (prose, head, code) in enumerate(web):
                if code:
                    number = dice.randrange(len(code))
                    many = 1 + dice.randrange(len(code) - number)
                    new = structure.split_off(web, section, number, many, "new")
                    self.assertTrue(is_web(new) and is_whole(new))
                    self.assertEqual(files_of(new), files_of(web))
                    filled = structure.use_filled(new, section, number)
                    self.assertEqual(structure.section_dropped(filled, len(web)), web)

    def test_by_name(self):
        self.assertEqual(structure.split_off(name="new", many=1, number=0, section=0, web=GREET),
                         structure.split_off(GREET, 0, 0, 1, "new"))


class EachTakesAWeb(unittest.TestCase):
    CALLS = ((structure.renamed, ("", "")), (structure.section_added, (-1, None)), (structure.section_dropped, (-1,)),
             (structure.section_moved, (-1, -1)), (structure.use_filled, (-1, -1)),
             (structure.split_off, (-1, -1, -1, "")), (structure.section_added, (0, ((), None, ()))))

    def test_invalid_web_ahead_of_all(self):
        for call, rest in self.CALLS:
            for value in NO_WEBS:
                with self.assertRaises(InvalidWeb) as caught:
                    call(value, *rest)
                self.assertIs(caught.exception.value, value, call)

    def test_webs_with_faults_are_let_but_for_use_filled(self):
        for seed in range(60):
            web = tangle_of_uses(seed)
            for call, rest in self.CALLS[:-1]:
                if is_whole(web) or call != structure.use_filled:
                    with self.assertRaises(KnotError) as caught:
                        call(web, *rest)
                    self.assertNotIsInstance(caught.exception, (InvalidWeb, NotWhole))
                else:
                    self.assertRaises(NotWhole, call, web, *rest)
