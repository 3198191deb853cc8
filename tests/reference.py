"""A second way to order, tangle and weave, and webs that are made up.

Circles and orders are found by trying all ways. Files and woven texts are made
from the lines of the web's text, as lists of signs, each beside its place.
"""

import itertools
import random
import re

from proseknot.webs import piece_names, used_by, users_of
from proseknot.webtext import web_text
from tests.samples import plain, use

USE = re.compile(r">( *)([a-z]+)\((.*)\)")
HEAD = re.compile(r"[=*]([a-z]+)\((.*)\)")


def all_circles(web, name):
    """All ways from a piece to itself on which no other name stands twice, the shorter ones first."""
    names = piece_names(web)
    others = [other for other in names if other != name]
    found = []
    for many in range(len(others) + 1):
        for middle in itertools.permutations(others, many):
            way = (name,) + middle + (name,)
            if all(used in used_by(web, user) for user, used in zip(way, way[1:])):
                found.append(way)
    return sorted(found, key=lambda way: (len(way), way))


def first_order(web):
    """The first of all orders, by piece_names, in which users stand ahead; None if there is none."""
    for order in itertools.permutations(piece_names(web)):
        if all(order.index(user) < order.index(name) for name in order for user in users_of(web, name)):
            return order
    return None


def all_reached(web, name):
    names = {name}
    for _ in range(6):
        for other in list(names):
            if other in piece_names(web):
                names |= set(used_by(web, other))
    return tuple(sorted(names))


def lines_with_places(web):
    """The lines of the web's text, each a list of (sign, place), its line feed the last one."""
    rows = [[]]
    for at, sign in enumerate(web_text(web)):
        rows[-1].append((sign, at))
        if sign == "\n":
            rows.append([])
    return rows[:-1]


def joined(signs):
    return "".join([pair[0] for pair in signs])


def pieces_of_text(web):
    """The pieces by name: params, whether it is a file, rows of code, sections."""
    pieces = {}
    section = -1
    for row in lines_with_places(web):
        line = joined(row)
        if line[0] == "@":
            section += 1
        if line[0] in "=*":
            name, params = HEAD.match(line).groups()
            piece = pieces.setdefault(name, {"params": [], "file": line[0] == "*", "rows": [], "sections": []})
            piece["params"] = [param for param in params.split(",") if param]
            piece["sections"].append(section)
        if line[0] in "|>":
            piece["rows"].append(row)
    return pieces


def with_slots_filled(signs, params, arguments):
    if not params:
        return signs
    out = []
    end = 0
    for match in re.finditer("[{](" + "|".join(params) + ")[}]", joined(signs)):
        out += signs[end:match.start()] + arguments[params.index(match.group(1))]
        end = match.end()
    return out + signs[end:]


def arguments_of(row):
    """The arguments of a use's row, each a list of (sign, place)."""
    start, end = USE.match(joined(row)).span(3)
    return [row[start:end][match.start():match.end()] for match in re.finditer("[^,]+", joined(row[start:end]))]


def spread_signs(pieces, name, arguments, margin, way):
    """The signs of a piece that is spread: (sign, place, way)."""
    piece = pieces[name]
    out = []
    for row in piece["rows"]:
        if row[0][0] == ">":
            blanks, used, _ = USE.match(joined(row)).groups()
            given = [with_slots_filled(signs, piece["params"], arguments) for signs in arguments_of(row)]
            out += spread_signs(pieces, used, given, margin + row[1:1 + len(blanks)], way + (row[0][1],))
        else:
            signs = with_slots_filled(row[1:-1], piece["params"], arguments)
            out += [pair + (way,) for pair in (margin + signs if signs else []) + row[-1:]]
    return out


def file_springs(web, name):
    return tuple(spread_signs(pieces_of_text(web), name, [], [], ()))


def made(text):
    return [(sign, None) for sign in text]


def listed(numbers):
    return ", ".join(str(number + 1) for number in numbers) + ".\n"


def use_row(row, pieces):
    """The signs of a use in the woven text."""
    blanks, name, _ = USE.match(joined(row)).groups()
    out = made("  ") + row[1:1 + len(blanks)] + made("<%s %d>" % (name, pieces[name]["sections"][0] + 1))
    given = arguments_of(row)
    for number, signs in enumerate(given):
        out += made("(,"[number > 0]) + signs
    return out + made(")\n" if given else "\n")


def closing_lines(web, pieces, name):
    sections = pieces[name]["sections"]
    out = "See also " + listed(sections[1:]) if len(sections) > 1 else ""
    using = [k for k, section in enumerate(web) if any(line[2:3] == (name,) for line in section[2])]
    return made(out + ("Used in " + listed(using) if using else ""))


def woven_signs(web):
    """The signs of the woven text: (sign, place or None)."""
    pieces = pieces_of_text(web)
    out = []
    section = -1
    closing = []
    for row in lines_with_places(web):
        mark = row[0][0]
        if mark == "@":
            section += 1
            out += closing + made("Section %d.\n" % (section + 1))
            closing = []
        elif mark == ".":
            out += row[1:]
        elif mark == "|":
            out += made("  ") + row[1:]
        elif mark == ">":
            out += use_row(row, pieces)
        else:
            name = HEAD.match(joined(row)).group(1)
            first = pieces[name]["sections"][0] == section
            signs = row[1:1 + len(name)]
            out += made("file " if mark == "*" else "") + (signs if first else made(name))
            out += made(joined(row[1 + len(name):-1]) + (" is\n" if first else " goes on\n"))
            closing = closing_lines(web, pieces, name) if first else []
    out += closing + made("Index\n")
    for name in sorted(pieces):
        out += made(name + ": " + listed(pieces[name]["sections"]))
    return tuple(out)


def goes_to(web):
    """A dict of the (text, place) pairs that come from each place, by turning round where all signs come from."""
    found = {}
    for name, piece in pieces_of_text(web).items():
        if piece["file"]:
            for place, told in enumerate(file_springs(web, name)):
                found.setdefault(told[1], []).append((name, place))
    for place, told in enumerate(woven_signs(web)):
        found.setdefault(told[1], []).append(("", place))
    return found


PARAMS = ((), (), ("x",), ("a", "ab"), ("b", "a", "abcdefgh"))
PARTS = ("{x}", "{a}", "{ab}", "{b}", "{abcdefgh}", "{", "}", "x", " ", "{{a}}", "", "{}", "do")
ARGUMENTS = ("x", "{x}", "{a}{ab}", "{b}-{a}", "p q", "{ab}{ab}", "{abcdefgh}", "}{")


def made_up_line(dice):
    return "".join([dice.choice(PARTS) for _ in range(dice.randrange(4))])


def made_up_section(dice, head, usable):
    """A section; usable are the heads that it may use."""
    prose = tuple([made_up_line(dice) for _ in range(dice.randrange(3))])
    code = []
    for _ in range(dice.randrange(5) if head else 0):
        if usable and dice.randrange(3):
            name, params, _ = dice.choice(usable)
            given = [dice.choice(ARGUMENTS) for _ in params]
            code.append(use(dice.choice((0, 0, 1, 3)), name, *given))
        else:
            code.append(plain(made_up_line(dice)))
    return (prose, head, tuple(code))


def whole_web(seed):
    """A web without faults, pieces standing in any sequence."""
    dice = random.Random(seed)
    names = dice.sample(("a", "b", "main", "zz", "more", "c"), 5)
    heads = [(name, dice.choice(PARAMS), False) for name in names]
    heads = [(head[0], (), True) if dice.randrange(4) == 0 else head for head in heads]
    sections = []
    for number, head in enumerate(heads):
        usable = [other for other in heads[number + 1:] if not other[2]]
        for _ in range(dice.choice((1, 1, 2))):
            sections.append(made_up_section(dice, head, usable))
    sections.append(made_up_section(dice, None, ()))
    dice.shuffle(sections)
    return tuple(sections)


def tangle_of_uses(seed):
    """A web of uses alone, with or without faults."""
    dice = random.Random(seed)
    names = ("a", "b", "c", "d", "e", "gone")
    heads = [(name, (), dice.randrange(5) == 0) for name in names[:5]]
    sections = []
    for _ in range(dice.randrange(8)):
        used = [use(0, dice.choice(names), *["x"] * (dice.randrange(6) == 0)) for _ in range(dice.randrange(4))]
        sections.append(((), dice.choice(heads), tuple(used)))
    return tuple(sections)
