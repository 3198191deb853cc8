"""[28]: a desk."""

import random
import unittest

from proseknot.backing import gone_back
from proseknot.desk import Desk, replayed
from proseknot.edits import changed_by
from proseknot.errors import InvalidEdit, InvalidLine, InvalidNumber, InvalidText, KnotError, NothingToUndo
from proseknot.errors import NoPiece, NotWhole, NoText, Refused, Undefined
from proseknot.order import faults
from proseknot.structure import renamed, section_dropped, section_moved, split_off, use_filled
from proseknot.weaving import text_names, text_of
from proseknot.webs import piece_names
from proseknot.webtext import read_web, web_text
from tests.reference import whole_web
from tests.samples import GREET, WIDE
from tests.texts import MAIN, TEXT, TEXTS, WEB, pairs_of

GREET_TEXT = web_text(GREET)


class Case(unittest.TestCase):
    def raises(self, kind, field, value, desk, line):
        """The line raises, and nothing of the desk changes."""
        web, lines = desk.web(), desk.lines
        with self.assertRaises(kind, msg=line) as caught:
            desk.run(line)
        self.assertEqual(getattr(caught.exception, field), value, line)
        self.assertEqual((desk.web(), desk.lines), (web, lines))


class Begun(Case):
    def test_web_and_texts(self):
        desk = Desk(TEXT)
        self.assertEqual(desk.web(), WEB)
        self.assertEqual(desk.lines, ())
        for name, text in TEXTS.items():
            self.assertEqual(desk.text(name), text)
        self.assertEqual(Desk(text="").web(), ())
        self.assertEqual(Desk("").text(name=""), "Index\n")

    def test_wrong_texts(self):
        for text, at in (("x", 0), ("@", 1), ("@\n<a\n", 2), ("@\n=p()\n@\n=p(x)\n", 9), (chr(37), 0)):
            for call in (Desk, lambda told: replayed(told, ["wrong"])):
                with self.assertRaises(InvalidText) as caught:
                    call(text)
                self.assertEqual((caught.exception.text, caught.exception.at), (text, at))

    def test_texts_that_are_not_there(self):
        desk = Desk(TEXT)
        for name in ("say", "never", "-"):
            with self.assertRaises(NoText) as caught:
                desk.text(name)
            self.assertEqual(caught.exception.name, name)
        desk = Desk(web_text(WIDE))
        for name in ("", "main", "never"):
            with self.assertRaises(NotWhole) as caught:
                desk.text(name)
            self.assertEqual(caught.exception.fault, faults(WIDE)[0])


class Lines(Case):
    def test_edit(self):
        desk = Desk(GREET_TEXT)
        self.assertEqual(desk.run("edit main 8 13 tell"), "3")
        new, paper = gone_back(GREET, "main", (8, 13, "tell"))
        self.assertEqual(desk.web(), new)
        self.assertEqual(len(paper), 3)
        self.assertEqual(desk.lines, ("edit main 8 13 tell",))

    def test_edit_of_the_woven_text(self):
        desk = Desk(GREET_TEXT)
        self.assertEqual(desk.run("edit - 11 16 Hail"), "1")
        self.assertEqual(desk.web(), gone_back(GREET, "", (11, 16, "Hail"))[0])

    def test_new_is_all_that_stands_behind_its_blank(self):
        for new in ("a b", " a", "a ", "  ", " ", "a  b c", "- 0 undo"):
            desk = Desk(GREET_TEXT)
            self.assertEqual(desk.run("edit main 0 5 " + new), "2")
            self.assertEqual(desk.web(), gone_back(GREET, "main", (0, 5, new))[0])

    def test_an_empty_new(self):
        desk = Desk(GREET_TEXT)
        self.assertEqual(desk.run("edit main 0 5 "), "2")
        self.assertEqual(desk.text("main")[:1], "\n")

    def test_line_feeds(self):
        desk = Desk(GREET_TEXT)
        self.assertEqual(desk.run("edit main 0 5 a~b~~c"), "2")
        self.assertEqual(desk.text("main")[:7], "a\nb\n\nc\n")
        self.assertEqual(desk.run("edit main 1 5 "), "2")
        self.assertEqual(desk.text("main")[:3], "ac\n")
        self.assertEqual(desk.run("edit main 0 0 ~"), "2")
        self.assertEqual(desk.text("main")[:4], "\nac\n")

    def test_an_edit_that_changes_nothing_is_kept(self):
        desk = Desk(GREET_TEXT)
        self.assertEqual(desk.run("edit main 0 5 begin"), "0")
        self.assertEqual(desk.lines, ("edit main 0 5 begin",))
        self.assertEqual(desk.run("undo"), "")
        self.assertEqual(desk.lines, ())

    def test_rename(self):
        desk = Desk(GREET_TEXT)
        self.assertEqual(desk.run("rename say tell"), "")
        self.assertEqual(desk.web(), renamed(GREET, "say", "tell"))

    def test_drop(self):
        desk = Desk(GREET_TEXT)
        self.assertEqual(desk.run("drop 1"), "")
        self.assertEqual(desk.web(), section_dropped(GREET, 1))

    def test_move(self):
        desk = Desk(TEXT)
        self.assertEqual(desk.run("move 0 3"), "")
        self.assertEqual(desk.web(), section_moved(WEB, 0, 3))

    def test_fill(self):
        desk = Desk(TEXT)
        self.assertEqual(desk.run("fill 1 1"), "")
        self.assertEqual(desk.web(), use_filled(WEB, 1, 1))

    def test_split(self):
        desk = Desk(TEXT)
        self.assertEqual(desk.run("split 2 3 2 part"), "")
        self.assertEqual(desk.web(), split_off(WEB, 2, 3, 2, "part"))

    def test_show_and_faults_are_not_kept(self):
        desk = Desk(TEXT)
        for name, text in TEXTS.items():
            self.assertEqual(desk.run("show " + (name or "-")), text)
        self.assertEqual(desk.run("faults"), "0")
        self.assertEqual(Desk(web_text(WIDE)).run("faults"), str(len(faults(WIDE))))
        self.assertEqual((desk.web(), desk.lines), (WEB, ()))
        self.raises(NothingToUndo, "word", "undo", desk, "undo")

    def test_numbers_of_several_figures(self):
        desk = Desk("@\n" * 12)
        self.assertEqual(desk.run("move 10 0"), "")
        self.assertEqual(desk.run("drop 11"), "")
        self.raises(InvalidNumber, "value", 11, desk, "drop 11")
        self.raises(InvalidNumber, "value", 10 ** 5000, desk, "drop 1" + "0" * 5000)

    def test_by_name(self):
        desk = Desk(TEXT)
        self.assertEqual(desk.run(line="show main"), MAIN)
        self.assertEqual(replayed(lines=["drop 0"], text=TEXT).web(), WEB[1:])


class WrongLines(Case):
    def wrong(self, line, at):
        desk = Desk(GREET_TEXT)
        self.raises(InvalidLine, "line", line, desk, line)
        self.raises(InvalidLine, "at", at, desk, line)

    def test_first_words(self):
        for line in ("", " ", " undo", "x", "Undo", "UNDO", "undone", "edi", "edits main 0 0 x", "edit\tmain 0 0 x",
                     "undo\n", "faults,", "lines", "web", "text main", "number", "-", "~", "new", "0", "drop0"):
            self.wrong(line, 0)

    def test_parts_too_many(self):
        for line, at in (("undo ", 5), ("undo x", 5), ("undo  ", 5), ("undo undo", 5), ("redo ", 5), ("redo 1", 5),
                         ("faults ", 7), ("faults x", 7), ("show main ", 10), ("show main x", 10), ("show - -", 7),
                         ("rename a b ", 11), ("rename a b c", 11), ("drop 1 ", 7), ("drop 1 2", 7), ("drop 1  2", 7),
                         ("move 0 1 ", 9), ("move 0 1 2", 9), ("fill 0 1 2", 9), ("split 0 1 1 a ", 14),
                         ("split 0 1 1 a b", 14), ("split 10 1 1 a b", 15)):
            self.wrong(line, at)

    def test_parts_that_are_lacking(self):
        for line in ("edit", "edit main", "edit main 0", "edit main 0 0", "edit - 0 0", "rename", "rename a", "drop",
                     "move", "move 0", "fill", "fill 0", "split", "split 0", "split 0 0", "split 0 0 1", "show"):
            self.wrong(line, len(line))

    def test_empty_parts(self):
        for line, at in (("edit ", 5), ("edit main ", 10), ("edit main 0 ", 12), ("edit  0 0 x", 5),
                         ("edit main  0 x", 10), ("edit main 0  x", 12),
                         ("rename ", 7), ("rename a ", 9), ("rename  a", 7), ("rename a  b", 9),
                         ("drop ", 5), ("drop  1", 5), ("move ", 5), ("move 0 ", 7), ("move  0 1", 5), ("fill 0  1", 7),
                         ("split 0 0 1 ", 12), ("split 0 0  a", 10), ("show ", 5), ("show  main", 5)):
            self.wrong(line, at)

    def test_parts_that_are_wrong(self):
        for part in ("00", "01", "007", "-1", "+1", "1.", "x", "1x", "x1", "0x1", "1_0", "\u0661", "\u00b2", "1\n",
                     "1\t", "~", "-", "--1", "1,"):
            self.wrong("drop " + part, 5)
            self.wrong("move " + part + " 0", 5)
            self.wrong("move 0 " + part, 7)
            self.wrong("fill 0 " + part, 7)
            self.wrong("split " + part + " 0 0 a", 6)
            self.wrong("split 0 " + part + " 0 a", 8)
            self.wrong("split 0 0 " + part + " a", 10)
            self.wrong("edit main " + part + " 0 x", 10)
            self.wrong("edit main 0 " + part + " x", 12)
        for part in ("A", "Main", "a1", "abcdefghi", "a-b", "a~", "a\n", "1", "\u00e9", "a.", "--"):
            self.wrong("show " + part, 5)
            self.wrong("edit " + part + " 0 0 x", 5)
            self.wrong("rename " + part + " a", 7)
            self.wrong("rename a " + part, 9)
            self.wrong("split 0 0 1 " + part, 12)

    def test_a_bar_is_no_word(self):
        self.wrong("rename - a", 7)
        self.wrong("rename main -", 12)
        self.wrong("split 0 0 1 -", 12)

    def test_the_first_part_that_is_wrong(self):
        for line, at in (("edit A 01 x", 5), ("edit main 01 x", 10), ("move x", 5), ("move 01 02", 5), ("split 0 x", 8),
                         ("rename A B C", 7), ("rename a B C", 9), ("drop x y", 5), ("split 00", 6), ("edit X", 5)):
            self.wrong(line, at)

    def test_wrong_lines_ahead_of_all_else(self):
        desk = Desk(web_text(WIDE))
        self.raises(InvalidLine, "at", 7, desk, "fill 0 x")
        self.raises(InvalidLine, "at", 12, desk, "edit main 0 x y")


class Refusals(Case):
    """What the functions raise that a line uses."""

    def test_edit(self):
        desk = Desk(GREET_TEXT)
        self.raises(NoText, "name", "say", desk, "edit say 0 0 x")
        self.raises(InvalidEdit, "value", (5, 0, "x"), desk, "edit main 5 0 x")
        self.raises(InvalidEdit, "value", (0, 99, ""), desk, "edit main 0 99 ")
        self.raises(Refused, "reason", "made", desk, "edit - 0 7 x")
        self.raises(NotWhole, "fault", faults(WIDE)[0], Desk(web_text(WIDE)), "edit main 0 0 x")

    def test_signs_that_no_edit_has(self):
        desk = Desk(GREET_TEXT)
        for sign in (chr(37), "\t", "\r", "\x00", "\x7f", "\u00e9", "\u2028"):
            self.raises(InvalidEdit, "value", (0, 0, "a" + sign), desk, "edit main 0 0 a" + sign)
        self.raises(NoText, "name", "never", desk, "edit never 0 0 \t")

    def test_others(self):
        desk = Desk(GREET_TEXT)
        self.raises(NoPiece, "name", "never", desk, "rename never a")
        self.raises(Refused, "reason", "name", desk, "rename say main")
        self.raises(InvalidNumber, "value", 2, desk, "drop 2")
        self.raises(InvalidNumber, "value", 2, desk, "move 2 3")
        self.raises(InvalidNumber, "value", 3, desk, "move 0 3")
        self.raises(Undefined, "what", "use", desk, "fill 0 0")
        self.raises(Undefined, "what", "use", desk, "fill 9 0")
        self.raises(InvalidNumber, "value", 9, desk, "split 9 0 0 main")
        self.raises(InvalidNumber, "value", 0, desk, "split 0 0 0 main")
        self.raises(Refused, "reason", "name", desk, "split 0 0 1 main")
        self.raises(NoText, "name", "say", desk, "show say")
        self.raises(NotWhole, "fault", faults(WIDE)[0], Desk(web_text(WIDE)), "show never")
        self.raises(NotWhole, "fault", faults(WIDE)[0], Desk(web_text(WIDE)), "fill 0 0")


class Undo(Case):
    LINES = ("edit main 0 5 start", "rename say tell", "move 0 1", "fill 1 1", "split 1 0 2 part", "drop 0")

    def states(self):
        """The webs ahead of and behind each of the lines."""
        desk = Desk(GREET_TEXT)
        webs = [desk.web()]
        for line in self.LINES:
            desk.run(line)
            webs.append(desk.web())
        return desk, webs

    def test_back_and_forth(self):
        desk, webs = self.states()
        self.assertEqual(desk.lines, self.LINES)
        for _ in range(3):
            for many in range(len(self.LINES) - 1, -1, -1):
                self.assertEqual(desk.run("undo"), "")
                self.assertEqual((desk.web(), desk.lines), (webs[many], self.LINES[:many]))
            self.raises(NothingToUndo, "word", "undo", desk, "undo")
            for many in range(1, len(self.LINES) + 1):
                self.assertEqual(desk.run("redo"), "")
                self.assertEqual((desk.web(), desk.lines), (webs[many], self.LINES[:many]))
            self.raises(NothingToUndo, "word", "redo", desk, "redo")

    def test_nothing_was_done(self):
        desk = Desk(GREET_TEXT)
        self.raises(NothingToUndo, "word", "undo", desk, "undo")
        self.raises(NothingToUndo, "word", "redo", desk, "redo")

    def test_redo_behind_a_new_line(self):
        desk, webs = self.states()
        desk.run("undo")
        desk.run("undo")
        desk.run("drop 0")
        self.raises(NothingToUndo, "word", "redo", desk, "redo")
        self.assertEqual(desk.lines, self.LINES[:4] + ("drop 0",))
        desk.run("undo")
        self.assertEqual(desk.web(), webs[4])
        desk.run("redo")
        self.assertEqual(desk.lines, self.LINES[:4] + ("drop 0",))
        self.raises(NothingToUndo, "word", "redo", desk, "redo")

    def test_redo_behind_lines_that_are_not_kept(self):
        desk, webs = self.states()
        desk.run("undo")
        desk.run("faults")
        desk.run("show -")
        self.raises(InvalidNumber, "value", 99, desk, "drop 99")
        self.raises(InvalidLine, "at", 0, desk, "x")
        self.raises(Refused, "reason", "name", desk, "rename tell main")
        desk.run("redo")
        self.assertEqual((desk.web(), desk.lines), (webs[-1], self.LINES))

    def test_redo_behind_an_edit_that_changes_nothing(self):
        desk = Desk(GREET_TEXT)
        desk.run("drop 1")
        desk.run("undo")
        desk.run("edit main 0 0 ")
        self.raises(NothingToUndo, "word", "redo", desk, "redo")

    def test_a_line_done_twice_is_undone_twice(self):
        desk = Desk("@\n.a\n@\n.b\n@\n.c\n")
        desk.run("drop 0")
        desk.run("drop 0")
        self.assertEqual(desk.lines, ("drop 0", "drop 0"))
        desk.run("undo")
        self.assertEqual(desk.web(), read_web("@\n.b\n@\n.c\n"))
        desk.run("undo")
        self.assertEqual(desk.web(), read_web("@\n.a\n@\n.b\n@\n.c\n"))

    def test_lines_told_earlier_stay(self):
        desk = Desk(GREET_TEXT)
        told = [desk.lines]
        for line in self.LINES + ("undo", "undo", "redo"):
            desk.run(line)
            told.append(desk.lines)
        expected = [self.LINES[:many] for many in (0, 1, 2, 3, 4, 5, 6, 5, 4, 5)]
        self.assertEqual(told, expected)
        self.assertTrue(all(isinstance(lines, tuple) for lines in told))

    def test_two_desks_beside_one_another(self):
        one, other = Desk(GREET_TEXT), Desk(GREET_TEXT)
        one.run("drop 1")
        self.assertEqual((other.web(), other.lines), (GREET, ()))
        other.run("rename say tell")
        self.assertEqual((one.web(), one.lines), (GREET[:1], ("drop 1",)))
        one.run("undo")
        self.raises(NothingToUndo, "word", "redo", other, "redo")
        self.assertEqual(other.lines, ("rename say tell",))


class Replayed(Case):
    def test_lines_are_run(self):
        for lines in ((), ("drop 1",), ["rename say tell", "fill 0 1"],
                      ("drop 0", "undo", "show main", "redo", "undo")):
            desk = Desk(GREET_TEXT)
            for line in lines:
                desk.run(line)
            told = replayed(GREET_TEXT, lines)
            self.assertIsInstance(told, Desk)
            self.assertEqual((told.web(), told.lines), (desk.web(), desk.lines))

    def test_what_they_raise(self):
        self.assertRaises(InvalidLine, replayed, GREET_TEXT, ["drop 0", "x", "drop 99"])
        self.assertRaises(InvalidNumber, replayed, GREET_TEXT, ["drop 0", "drop 99", "x"])
        self.assertRaises(NothingToUndo, replayed, GREET_TEXT, ("undo",))

    def test_desks_that_are_made_up(self):
        kept = {}
        for seed in range(30):
            dice = random.Random(seed)
            text = web_text(whole_web(seed))
            desk = Desk(text)
            for _ in range(30):
                line = made_up_line(dice, desk.web())
                before = desk.web()
                try:
                    answer = desk.run(line)
                except KnotError:
                    self.assertEqual(desk.web(), before)
                    continue
                kept[line.split(" ")[0]] = True
                if line.startswith("edit"):
                    self.check_edit(before, line, answer, desk)
                other = replayed(text, desk.lines)
                self.assertEqual((other.web(), other.lines), (desk.web(), desk.lines))
                if desk.run("faults") == "0":
                    told = [(name, desk.text(name)) for name in text_names(desk.web())]
                    self.assertEqual(pairs_of(other.web()), told)
        self.assertEqual(set(kept), {"edit", "rename", "drop", "move", "fill", "split", "undo", "redo"})

    def check_edit(self, before, line, answer, desk):
        name, start, end, new = line.split(" ", 4)[1:]
        edit = (int(start), int(end), new.replace("~", "\n"))
        told, paper = gone_back(before, "" if name == "-" else name, edit)
        self.assertEqual((desk.web(), answer), (told, str(len(paper))))
        self.assertEqual(changed_by(pairs_of(before), paper), tuple(pairs_of(told)))


def made_up_line(dice, web):
    """A line that may be right for a web."""
    kind = dice.choice(("edit", "edit", "edit", "rename", "drop", "move", "fill", "split", "undo", "undo", "redo"))
    section = dice.randrange(len(web) + 1)
    if kind == "edit":
        if faults(web):
            return "edit - 0 0 "
        name = dice.choice(text_names(web))
        start = dice.randrange(len(text_of(web, name)) + 1)
        new = dice.choice(("", "x", "a~b", " ", "~  "))
        return "edit %s %d %d %s" % (name or "-", start, start + dice.randrange(4), new)
    if kind == "rename" and piece_names(web):
        return "rename %s %s" % (dice.choice(piece_names(web)), dice.choice(("a", "new", "main", "other")))
    if kind == "drop":
        return "drop %d" % section if dice.randrange(4) == 0 else "undo"
    if kind == "move":
        return "move %d %d" % (section, dice.randrange(len(web) + 1))
    if kind == "fill":
        return "fill %d %d" % (section, dice.randrange(5))
    if kind == "split":
        return "split %d %d %d %s" % (section, dice.randrange(4), dice.randrange(3), dice.choice(("part", "more", "b")))
    return kind
