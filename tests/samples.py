"""Webs that the tests share, and values that are none."""


def plain(line):
    return ("plain", line)


def use(indent, name, *arguments):
    return ("use", indent, name, arguments)


MAIN = ("main", (), True)
SAY = ("say", ("x",), False)
DEEP = ("deep", ("a", "ab", "abcdefgh"), False)

EMPTY = ()

GREET = (
    (("Greet.",), MAIN, (plain("begin"), use(2, "say", "hello"), use(2, "say", "bye"))),
    (("Say it.",), SAY, (plain("print {x}"),)),
)

# Pieces told in several sections, uses of pieces that are not there, sections without a head.
WIDE = (
    ((), None, ()),
    (("Prose alone.", "", " with | blanks > "), None, ()),
    (("",), SAY, ()),
    ((), MAIN, (use(0, "deep"), plain(""), use(20, "nowhere", "a b", "{x}", "c.d"))),
    (("More.",), SAY, (use(1, "main"), use(1, "deep"), use(2, "say", "~"))),
    ((), DEEP, (plain("{a}{ab}"), use(3, "gone", "!"), use(0, "gone"))),
    ((), MAIN, (use(0, "say", "x"), use(0, "deep", "=*|>", "@."))),
    ((), ("other", (), True), ()),
)

# Beyond the limits of what is handed in: sections, lines and signs.
LARGE = tuple([(("p" * 90,) * 9, SAY, (plain("c" * 90),) * 12)] * 14)

WEBS = (EMPTY, GREET, WIDE, LARGE)

NO_WEBS = (
    None, 0, 1, True, False, "", "@\n", [], [GREET], list(GREET),
    (None,), (0,), ("",), ((),), ([],), ("abc",), (((), None, ()), None),
    [[[[]]]], (((((),),),),), (GREET,),
)
