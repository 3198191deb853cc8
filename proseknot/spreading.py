"""Spreading pieces into the lines of a file.

A span is a pair (text, at): signs that stand beside one another in the web's
text, from the place at on. So a row of spans tells a text and where each of
its signs comes from.
"""

from proseknot.slots import parts_of
from proseknot.webtext import line_places, placed_arguments


def placed_parts(at, line, params):
    """The parts of a line or an argument that stands at a place: spans, and for slots the numbers of their params."""
    parts = []
    for part in parts_of(line, params):
        if part[0] == "slot":
            parts.append(part[3])
        else:
            parts.append((line[part[1]:part[2]], at + part[1]))
    return parts


def placed_code(at, line, params):
    """A code line whose line begins at a place: its line feed's span and its parts, or a use and its arguments' parts.

    Each is looked at once for the web, since a piece may be spread many times.
    """
    if line[0] == "plain":
        return ("plain", ("\n", at + 1 + len(line[1])), placed_parts(at + 1, line[1], params))
    kind, indent, name, arguments = line
    given = [placed_parts(start, told, params) for start, told in placed_arguments(at, line)]
    return ("use", (" " * indent, at + 1), name, given)


def placed_pieces(web):
    """A dict of the code lines of each piece, as placed_code tells them, each behind the place of its line."""
    places = line_places(web)
    pieces = {}
    for section, (prose, head, code) in enumerate(web):
        if head is not None:
            lines = pieces.setdefault(head[0], [])
            for number, line in enumerate(code):
                at = places[(section, "code", number)]
                lines.append((at, placed_code(at, line, head[1])))
    return pieces


def filled_spans(parts, arguments):
    """The spans of a line or an argument, those of the arguments in its slots."""
    spans = []
    for part in parts:
        if isinstance(part, int):
            spans.extend(arguments[part])
        else:
            spans.append(part)
    return spans


def plain_spans(parts, feed, arguments, margin):
    """The spans of a plain line, its line feed the last one."""
    spans = filled_spans(parts, arguments)
    if spans != []:
        spans = margin + spans
    return spans + [feed]


def spread(pieces, name, arguments, margin, way):
    """The lines of a piece, each (way, margin, spans); a margin and each argument are lists of spans."""
    lines = []
    for at, told in pieces[name]:
        if told[0] == "plain":
            kind, feed, parts = told
            lines.append((way, margin, plain_spans(parts, feed, arguments, margin)))
        else:
            kind, indent, used, given = told
            inner = [filled_spans(parts, arguments) for parts in given]
            lines.extend(spread(pieces, used, inner, margin + [indent], way + (at,)))
    return lines


def file_lines(web, name):
    """The lines of a file of a whole web, each (way, margin, spans); an empty line has no span of its margin."""
    return spread(placed_pieces(web), name, [], [], ())


def spans_text(spans):
    """The text of a row of spans."""
    return "".join([text for text, at in spans])
