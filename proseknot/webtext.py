"""The web as a text: writing it, reading it, and the places in it."""

from proseknot.errors import InvalidNumber, Undefined
from proseknot.reading import Reader
from proseknot.webs import check_web


def head_text(head):
    """The line of a head."""
    name, params, is_file = head
    mark = "*" if is_file else "="
    return mark + name + "(" + ",".join(params) + ")"


def code_text(line):
    """The line of a code line."""
    if line[0] == "plain":
        return "|" + line[1]
    kind, indent, name, arguments = line
    return ">" + " " * indent + name + "(" + ",".join(arguments) + ")"


def section_lines(number, section):
    """The lines of a section: each (section, kind, number, the line without its line feed)."""
    prose, head, code = section
    lines = [(number, "section", 0, "@")]
    lines.extend([(number, "prose", k, "." + line) for k, line in enumerate(prose)])
    if head is not None:
        lines.append((number, "head", 0, head_text(head)))
    lines.extend([(number, "code", k, code_text(line)) for k, line in enumerate(code)])
    return lines


def placed_lines(web):
    """The lines of all sections, each behind the place at which it begins."""
    placed = []
    at = 0
    for number, section in enumerate(web):
        for line in section_lines(number, section):
            placed.append((at, line))
            at += len(line[3]) + 1
    return placed


def line_places(web):
    """A dict of the places at which lines begin, by their (section, kind, number)."""
    return {line[:3]: at for at, line in placed_lines(web)}


def placed_arguments(at, use):
    """The arguments of a use whose line begins at a place, each behind its own place."""
    kind, indent, name, arguments = use
    start = at + indent + len(name) + 2
    placed = []
    for argument in arguments:
        placed.append((start, argument))
        start += len(argument) + 1
    return placed


def web_text(web):
    """The text of a web."""
    check_web(web)
    return "".join([line[3] + "\n" for at, line in placed_lines(web)])


def read_web(text):
    """The web of a text."""
    reader = Reader(text)
    web = reader.read_sections()
    reader.check_heads()
    return web


def line_starts(web):
    """The places in web_text at which its lines begin."""
    check_web(web)
    return tuple([at for at, line in placed_lines(web)])


def place_in(web, section, kind, number, column):
    """The place in web_text of a sign of a line, its line feed being the last one."""
    check_web(web)
    if kind != "section":
        for at, line in placed_lines(web):
            if line[:3] == (section, kind, number) and 0 <= column <= len(line[3]):
                return at + column
    raise Undefined("place")


def told_at(web, at):
    """The section, kind, number and column of a place in web_text."""
    check_web(web)
    for start, (section, kind, number, line) in placed_lines(web):
        if start <= at <= start + len(line):
            return (section, kind, number, at - start)
    raise InvalidNumber(at)
