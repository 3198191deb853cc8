"""[27]: shelves."""

import copy
import itertools
import random
import unittest

from proseknot.backing import gone_back
from proseknot.errors import InvalidEdit, InvalidText, NotWhole, NoText, Refused, Undefined
from proseknot.order import faults
from proseknot.shelves import shelf_gone_back, shelf_springs, shelf_web
from proseknot.weaving import text_names, text_of
from proseknot.webtext import read_web, web_text
from tests.oracle import SHELF_TEXT, first_fault
from tests.reference import whole_web
from tests.texts import marked

CALLS = (
    (shelf_web, ()), (shelf_springs, ()), (shelf_gone_back, ("never", None)), (shelf_gone_back, ("", (0, 0, "x"))),
)

# A text with includes ahead of sections, between them, several in a row, and at its end.
BOOK = (
    ("main", "<intro\n@\n.Main.\n*f()\n>say(a)\n|one\n<tools\n<none\n@\n=own()\n|{x}\n<last\n"),
    ("last", "@\n.The end.\n"),
    ("intro", "@\n.Hello.\n@\n"),
    ("none", ""),
    ("tools", "@\n=say(x)\n|say {x}\n<deep\n@\n=say(x)\n|said\n"),
    ("deep", "<none\n@\n.Deep.\n=deep()\n|deep\n<none\n"),
    ("apart", "@\n.Apart.\n"),
)

BOOK_TEXT = ("@\n.Hello.\n@\n@\n.Main.\n*f()\n>say(a)\n|one\n@\n=say(x)\n|say {x}\n@\n.Deep.\n=deep()\n|deep\n"
             "@\n=say(x)\n|said\n@\n=own()\n|{x}\n@\n.The end.\n")

# `part` comes in twice, by two ways, and once more from `two` on.
TWICE = (
    ("one", "@\n*f()\n|own\n>p()\n<two\n<part\n"),
    ("two", "<part\n@\n.Two.\n"),
    ("part", "@\n.Part.\n=p()\n|part\n"),
)


def changed(shelf, word, old, new):
    """The shelf with old, which stands in one of its texts once, replaced."""
    assert dict(shelf)[word].count(old) == 1
    return tuple([(told, text.replace(old, new) if told == word else text) for told, text in shelf])


class Case(unittest.TestCase):
    def raises(self, kind, shelf, word, calls=CALLS, **fields):
        for told in (shelf, list(shelf)):
            for call, rest in calls:
                with self.assertRaises(kind) as caught:
                    call(told, word, *rest)
                for field, value in fields.items():
                    self.assertEqual(getattr(caught.exception, field), value, (shelf, word))


class Web(Case):
    def test_included_sections_stand_in_the_place_of_the_line(self):
        self.assertEqual(web_text(shelf_web(BOOK, "main")), BOOK_TEXT)
        self.assertEqual(shelf_web(list(BOOK), "main"), read_web(BOOK_TEXT))

    def test_from_each_text_on(self):
        self.assertEqual(web_text(shelf_web(BOOK, "tools")),
                         "@\n=say(x)\n|say {x}\n@\n.Deep.\n=deep()\n|deep\n@\n=say(x)\n|said\n")
        self.assertEqual(web_text(shelf_web(BOOK, "deep")), "@\n.Deep.\n=deep()\n|deep\n")
        self.assertEqual(web_text(shelf_web(BOOK, "apart")), "@\n.Apart.\n")
        self.assertEqual(shelf_web(BOOK, "none"), ())

    def test_springs(self):
        self.assertEqual(shelf_springs(BOOK, "main"), (
            ("intro", 0), ("intro", 1), ("main", 0), ("tools", 0), ("deep", 0), ("tools", 1), ("main", 1), ("last", 0)))
        self.assertEqual(shelf_springs(BOOK, "deep"), (("deep", 0),))
        self.assertEqual(shelf_springs(BOOK, "none"), ())

    def test_texts_that_are_included_several_times(self):
        part = "@\n.Part.\n=p()\n|part\n"
        self.assertEqual(web_text(shelf_web(TWICE, "one")), "@\n*f()\n|own\n>p()\n" + part + "@\n.Two.\n" + part)
        self.assertEqual(shelf_springs(TWICE, "one"), (("one", 0), ("part", 0), ("two", 0), ("part", 0)))
        shelf = (("a", "<b\n<b\n@\n<b\n"), ("b", "@\n.b\n"))
        self.assertEqual(web_text(shelf_web(shelf, "a")), "@\n.b\n@\n.b\n@\n@\n.b\n")
        self.assertEqual(shelf_springs(shelf, "a"), (("b", 0), ("b", 0), ("a", 0), ("b", 0)))

    def test_texts_without_sections(self):
        shelf = (("a", "<b\n<b\n"), ("b", "<c\n"), ("c", ""))
        for word in "abc":
            self.assertEqual(shelf_web(shelf, word), ())
            self.assertEqual(shelf_springs(shelf, word), ())

    def test_texts_without_includes(self):
        for seed in range(20):
            web = whole_web(seed)
            self.assertEqual(shelf_web((("a", web_text(web)),), "a"), web)
            self.assertEqual(shelf_springs([("a", web_text(web))], "a"), tuple(("a", k) for k in range(len(web))))

    def test_includes_behind_each_kind_of_line(self):
        shelf = (("more", "@\n.m\n"),
                 ("a", "@\n<more\n@\n.p\n<more\n@\n=a()\n<more\n@\n=a()\n|<more\n<more\n@\n=a()\n>a()\n<more\n"))
        self.assertEqual(web_text(shelf_web(shelf, "a")), (
            "@\n@\n.m\n@\n.p\n@\n.m\n@\n=a()\n@\n.m\n@\n=a()\n|<more\n@\n.m\n@\n=a()\n>a()\n@\n.m\n"))

    def test_texts_that_are_not_come_to_are_not_read(self):
        shelf = (("a", "@\n"), ("b", "wrong"), ("c", "<c\n<never\n"))
        self.assertEqual(shelf_web(shelf, "a"), (((), None, ()),))

    def test_webs_with_faults(self):
        shelf = (("a", "@\n*f()\n>gone()\n<b\n"), ("b", "@\n=p()\n>p()\n"))
        self.assertEqual(faults(shelf_web(shelf, "a")), (("missing", 0, 0, "gone"), ("circle", "p")))

    def test_by_name_and_nothing_is_changed(self):
        shelf = list(BOOK)
        kept = copy.deepcopy(shelf)
        self.assertEqual(shelf_web(word="main", shelf=shelf), shelf_web(BOOK, "main"))
        self.assertEqual(shelf_springs(word="main", shelf=shelf), shelf_springs(BOOK, "main"))
        shelf_gone_back(edit=(0, 3, "ONE"), name="f", word="tools", shelf=[("tools", "@\n*f()\n|one\n")])
        shelf_gone_back(shelf, "main", "f", (0, 3, "SAY"))
        self.assertEqual(shelf, kept)


class WrongShelves(Case):
    def test_no_text(self):
        self.raises(NoText, BOOK, "never", name="never")
        self.raises(NoText, BOOK, "", name="")
        self.raises(NoText, (), "a", name="a")
        self.raises(NoText, (("a", "@\n<b\n"),), "a", name="b")
        self.raises(NoText, (("a", "<b\n"), ("b", "@\n.\n<abcdefgh\n")), "a", name="abcdefgh")

    def test_texts_that_cannot_be_read(self):
        for text, at in (("x", 0), ("@", 1), ("<", 1), ("<\n", 1), ("< more\n", 1), ("<more", 5), ("<more \n", 5),
                         ("<abcdefghi\n", 9), ("<abcdefgh", 9), ("<A\n", 1), ("<a1\n", 2), ("@\n.p\n<a\n.q\n", 8),
                         ("<a\n*f()\n", 3), ("@\n=a()\n<b\n|x\n", 10), ("@\n=a()\n< b\n", 8), ("@\n*f(x)\n", 5),
                         ("@\n <a\n", 2), ("<a\n\n", 3), ("@\n.%\n".replace("%", chr(37)), 3), ("<a\n<", 4)):
            for shelf in ((("a", text),), (("a", "@\n<b\n"), ("b", text)), (("b", text), ("a", "<b\n@\n"))):
                word = "a" if len(shelf) > 1 else shelf[0][0]
                self.raises(InvalidText, shelf, word, text=text, at=at)

    def test_each_short_text(self):
        for many in range(5):
            for signs in itertools.product("@<\na.=", repeat=many):
                self.told_alike("".join(signs))

    def test_texts_cut_and_changed(self):
        dice = random.Random(3)
        whole = dict(BOOK)["main"] + dict(BOOK)["deep"]
        for _ in range(600):
            at = dice.randrange(len(whole) + 1)
            sign = dice.choice("@<\naA.=*|> (),{-")
            behind = dice.choice((whole[at:], whole[at + 1:]))
            self.told_alike(dice.choice((whole[:at], whole[:at] + sign + behind)))

    def told_alike(self, text):
        expected = first_fault(text, SHELF_TEXT)
        try:
            shelf_web((("b", text), ("a", "")), "b")
        except InvalidText as error:
            if expected is None:
                # Only heads are wrong then, and they are looked at in the end.
                self.assertTrue(text[error.at] in "=*", text)
            else:
                self.assertEqual((error.text, error.at), (text, expected))
        except (NoText, Undefined):
            self.assertIsNone(expected, text)
        else:
            self.assertIsNone(expected, text)

    def test_a_text_is_looked_at_whole_ahead_of_its_includes(self):
        shelf = (("a", "<never\n@\nx"), ("b", "<never\n<a\n"), ("c", "<a\n<never\n"))
        self.raises(InvalidText, shelf, "a", text="<never\n@\nx", at=9)
        self.raises(NoText, shelf, "b", name="never")
        self.raises(InvalidText, shelf, "c", text="<never\n@\nx", at=9)

    def test_the_first_fault_that_is_met(self):
        shelf = (("a", "<b\n<c\n<never\n"), ("b", "<d\n"), ("c", "wrong"), ("d", "<gone\n"), ("e", "<c\n<d\n"))
        self.raises(NoText, shelf, "a", name="gone")
        self.raises(InvalidText, shelf, "e", text="wrong", at=0)

    def test_circles(self):
        for shelf in ((("a", "<a\n"),), (("a", "@\n<b\n"), ("b", "<a\n")),
                      (("a", "<b\n"), ("b", "@\n<c\n"), ("c", "<b\n")),
                      (("a", "<b\n<c\n"), ("b", ""), ("c", "<b\n<c\n"))):
            self.raises(Undefined, shelf, "a", what="circle")

    def test_texts_come_to_by_two_ways_are_no_circle(self):
        shelf = (("a", "<b\n<c\n"), ("b", "<d\n"), ("c", "<b\n<d\n"), ("d", "@\n"))
        self.assertEqual(shelf_springs(shelf, "a"), (("d", 0), ("d", 0), ("d", 0)))

    def test_reading_goes_on_behind_a_line_that_closes_a_circle(self):
        shelf = (("a", "<a\n<b\n"), ("b", "<a\n<c\n"), ("c", "wrong"))
        self.raises(InvalidText, shelf, "a", text="wrong", at=0)
        self.raises(NoText, (("a", "<a\n<never\n"),), "a", name="never")
        self.raises(NoText, (("a", "<b\n<never\n"), ("b", "<b\n")), "a", name="never")

    def test_circles_ahead_of_heads(self):
        shelf = (("a", "@\n=p()\n@\n=p(x)\n<b\n"), ("b", "<a\n"))
        self.raises(Undefined, shelf, "a", what="circle")

    def test_heads_of_one_text(self):
        text = "@\n.p\n=p()\n|\n@\n.pp\n.\n=p(x)\n"
        self.raises(InvalidText, (("a", text),), "a", text=text, at=text.index("=p(x)"))
        text = "@\n*p()\n<b\n@\n=p()\n"
        self.raises(InvalidText, (("b", ""), ("a", text)), "a", text=text, at=text.index("=p()"))

    def test_heads_of_two_texts(self):
        one, other = "@\n.1\n=p()\n", "@\n.two\n=p(x)\n"
        shelf = (("one", one), ("other", other), ("a", "<one\n<other\n"), ("b", "<other\n<one\n"))
        self.raises(InvalidText, shelf, "a", text=other, at=7)
        self.raises(InvalidText, shelf, "b", text=one, at=5)

    def test_the_first_head_in_the_sequence_of_the_web(self):
        first, last = "@\n=p()\n<mid\n@\n=q(x)\n@\n=p(x)\n", "@\n=q()\n@\n.x\n=p(y)\n"
        shelf = (("first", first), ("mid", "@\n=q()\n"), ("last", last),
                 ("a", "<first\n<last\n"), ("b", "<last\n<first\n"))
        self.raises(InvalidText, shelf, "a", text=first, at=first.index("=q(x)"))
        self.raises(InvalidText, shelf, "b", text=first, at=2)

    def test_faults_of_reading_ahead_of_heads(self):
        shelf = (("a", "@\n=p()\n@\n=p(x)\n<b\n<never\n"), ("b", "@\n"))
        self.raises(NoText, shelf, "a", name="never")
        self.raises(InvalidText, (("a", "@\n=p()\n@\n=p(x)\n<b\n"), ("b", "@")), "a", text="@", at=1)

    def test_heads_that_are_included_twice(self):
        shelf = (("a", "<b\n<b\n"), ("b", "@\n=p(x)\n"))
        self.assertEqual(len(shelf_web(shelf, "a")), 2)


class GoneBack(Case):
    def goes(self, shelf, word, name, pattern, new, expected):
        web = shelf_web(shelf, word)
        edit = marked(text_of(web, name), pattern, new)
        for told in (shelf, list(shelf)):
            result = shelf_gone_back(told, word, name, edit)
            self.assertEqual(result, expected)
            self.assertTrue(isinstance(result, tuple) and all(isinstance(pair, tuple) for pair in result))
        self.assertEqual(shelf_web(expected, word), gone_back(web, name, edit)[0])

    def test_in_each_kind_of_line(self):
        self.goes(BOOK, "main", "f", "say [a]\n", "b", changed(BOOK, "main", "say(a)", "say(b)"))
        self.goes(BOOK, "main", "f", "[o]ne", "x\ny", changed(BOOK, "main", "|one", "|x\n|yne"))
        self.goes(BOOK, "main", "f", "[say ]a", "", changed(BOOK, "tools", "|say {x}", "|{x}"))
        self.goes(BOOK, "main", "f", "sai[d]", "DD", changed(BOOK, "tools", "|said", "|saiDD"))
        self.goes(BOOK, "main", "", "H[ell]o.", "all", changed(BOOK, "intro", "Hello", "Hallo"))
        self.goes(BOOK, "main", "", "[Deep.]", "\n", changed(BOOK, "deep", ".Deep.", ".\n."))
        self.goes(BOOK, "main", "", "  [{x}]\nSection 8", "y", changed(BOOK, "main", "|{x}", "|y"))
        self.goes(BOOK, "tools", "", "[d]eep\n", "D", changed(BOOK, "deep", "|deep", "|Deep"))

    def test_beside_sections_alike(self):
        shelf = (("a", "@\n.x\n<b\n@\n.x\n"), ("b", "@\n.x\n"))
        text = text_of(shelf_web(shelf, "a"), "")
        for number, expected in ((1, (("a", "@\n.y\n<b\n@\n.x\n"), shelf[1])), (2, (shelf[0], ("b", "@\n.y\n"))),
                                 (3, (("a", "@\n.x\n<b\n@\n.y\n"), shelf[1]))):
            at = text.index("Section %d." % number) + 11
            self.assertEqual(shelf_gone_back(shelf, "a", "", (at, at + 1, "y")), expected)

    def test_sections_that_come_in_more_than_once(self):
        web = shelf_web(TWICE, "one")
        for name, place in (("f", text_of(web, "f").index("part")), ("f", text_of(web, "f").rindex("part")),
                            ("", text_of(web, "").index("Part.")), ("", text_of(web, "").rindex("Part."))):
            with self.assertRaises(Refused) as caught:
                shelf_gone_back(TWICE, "one", name, (place, place + 1, "X"))
            self.assertEqual(caught.exception.reason, "twice")

    def test_other_sections_beside_those(self):
        self.goes(TWICE, "one", "f", "[own]", "OWN", changed(TWICE, "one", "|own", "|OWN"))
        self.goes(TWICE, "one", "", "[Two.]", "2", changed(TWICE, "two", ".Two.", ".2"))
        self.goes(TWICE, "two", "", "[Part.]", "P", changed(TWICE, "part", ".Part.", ".P"))

    def test_an_edit_that_changes_nothing_leaves_the_shelf(self):
        web = shelf_web(TWICE, "one")
        place = text_of(web, "f").index("part")
        for shelf in (TWICE, list(TWICE)):
            self.assertEqual(shelf_gone_back(shelf, "one", "f", (place, place + 4, "part")), TWICE)
            self.assertEqual(shelf_gone_back(shelf, "one", "f", (0, 0, "")), TWICE)

    def test_the_errors_of_going_back_behind_those_of_the_shelf_and_ahead_of_twice(self):
        calls = ((shelf_gone_back, ("never", None)),)
        self.raises(NoText, TWICE, "one", calls, name="never")
        self.raises(InvalidEdit, TWICE, "one", ((shelf_gone_back, ("f", [0])),), value=[0])
        self.raises(Refused, TWICE, "one", ((shelf_gone_back, ("", (0, 0, "x"))),), reason="made")
        place = text_of(shelf_web(TWICE, "one"), "f").index("part")
        self.raises(Refused, TWICE, "one", ((shelf_gone_back, ("f", (place, place, "x" * 41))),), reason="limit")
        shelf = (("a", "@\n*f()\n>gone()\n"),)
        self.raises(NotWhole, shelf, "a", calls, fault=("missing", 0, 0, "gone"))
        self.raises(NoText, shelf, "b", calls, name="b")
        self.raises(Undefined, (("a", "@\n*f()\n>gone()\n<a\n"),), "a", calls, what="circle")

    def test_texts_that_are_not_come_to_stay_as_they_are(self):
        shelf = (("b", "wrong"), ("a", "@\n.x\n"), ("c", "<c\n"))
        self.assertEqual(shelf_gone_back(shelf, "a", "", (11, 12, "y")),
                         (("b", "wrong"), ("a", "@\n.y\n"), ("c", "<c\n")))

    def test_shelf_web_of_the_new_shelf_is_the_new_web(self):
        twice = gone = 0
        for seed in range(25):
            shelf = made_up_shelf(seed)
            web = shelf_web(shelf, "a")
            dice = random.Random(seed)
            sources = shelf_springs(shelf, "a")
            for _ in range(60):
                name = dice.choice(text_names(web))
                length = len(text_of(web, name))
                start = dice.randrange(length + 1)
                edit = (start, min(length, start + dice.randrange(4)), dice.choice(("", "x", "\n", "a b")))
                try:
                    new, paper = gone_back(web, name, edit)
                except Refused:
                    continue
                places = [k for k in range(len(web)) if web[k] != new[k]]
                if places and sources.count(sources[places[0]]) > 1:
                    twice += 1
                    with self.assertRaises(Refused) as caught:
                        shelf_gone_back(shelf, "a", name, edit)
                    self.assertEqual(caught.exception.reason, "twice")
                else:
                    gone += 1
                    told = shelf_gone_back(shelf, "a", name, edit)
                    self.assertEqual(shelf_web(told, "a"), new)
                    self.assertEqual(shelf_springs(told, "a"), sources)
                    unlike = [pair[0] for pair, other in zip(shelf, told) if pair != other]
                    self.assertEqual(unlike, [sources[k][0] for k in places])
        self.assertTrue(twice > 10 and gone > 100, (twice, gone))


def made_up_shelf(seed):
    """A shelf of four texts with the sections of a web, each including later ones."""
    dice = random.Random(seed)
    words = ("a", "b", "c", "d")
    lines = {word: [] for word in words}
    for section in whole_web(seed):
        lines[dice.choice(words)].append(web_text((section,)))
    for number, word in enumerate(words):
        for other in words[number + 1:]:
            for _ in range(dice.choice((0, 1, 1, 1, 2) if other == "d" else (0, 1, 1))):
                lines[word].insert(dice.randrange(len(lines[word]) + 1), "<" + other + "\n")
    # Each text is come to, so that the web is whole.
    if "<b\n" not in lines["a"]:
        lines["a"].append("<b\n")
    for word in "cd":
        if "<" + word + "\n" not in lines["a"] + lines["b"]:
            lines["b"].insert(0, "<" + word + "\n")
    return tuple([(word, "".join(lines[word])) for word in dice.sample(words, 4)])
