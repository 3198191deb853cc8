"""Spreading pieces into the lines of a file.

A span is a pair (text, at): signs that stand beside one another in the web's
text, from the place at on. So a row of spans tells a text and where each of
its signs comes from.
"""

from proseknot.slots import parts_of
from proseknot.webtext import line_places, placed_arguments


def placed_pieces(web):
    """A dict of each piece's (params, code lines), each code line behind the place of its line."""
    places = line_places(web)
    pieces = {}
    for section, (prose, head, code) in enumerate(web):
        if head is not None:
            params, lines = pieces.setdefault(head[0], (head[1], []))
            lines.extend([(places[(section, "code", number)], line) for number, line in enumerate(code)])
    return pieces


def filled_spans(at, line, params, arguments):
    """The spans of a line or an argument that stands at a place, those of the arguments in its slots."""
    spans = []
    for part in parts_of(line, params):
        if part[0] == "slot":
            spans.extend(arguments[part[3]])
        else:
            spans.append((line[part[1]:part[2]], at + part[1]))
    return spans


def plain_spans(at, line, params, arguments, margin):
    """The spans of a plain line whose `|` stands at a place, its line feed the last one."""
    spans = filled_spans(at + 1, line, params, arguments)
    if spans != []:
        spans = margin + spans
    return spans + [("\n", at + 1 + len(line))]


def spread(pieces, name, arguments, margin, way):
    """The lines of a piece, each (way, spans); a margin and each argument are lists of spans."""
    params, code = pieces[name]
    lines = []
    for at, line in code:
        if line[0] == "plain":
            lines.append((way, plain_spans(at, line[1], params, arguments, margin)))
        else:
            indent = (" " * line[1], at + 1)
            given = [filled_spans(start, told, params, arguments) for start, told in placed_arguments(at, line)]
            lines.extend(spread(pieces, line[2], given, margin + [indent], way + (at,)))
    return lines


def file_lines(web, name):
    """The lines of a file of a whole web, each (way, spans)."""
    return spread(placed_pieces(web), name, [], [], ())
