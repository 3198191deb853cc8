"""The woven text, as rows: one of spans (text, at) for each line, at being None where the signs are made.

Each row stands behind its margin, which is ahead of code lines alone.
"""

from proseknot.slots import parts_of
from proseknot.webs import names_used, sections_by_name
from proseknot.webtext import line_places, placed_arguments

CODE_MARGIN = "  "


def made_row(text):
    """The row of a line that is made, its line feed too."""
    return ("", [(text + "\n", None)])


def numbers_told(numbers):
    """The numbers of sections as the woven text tells them, from 1 on."""
    return ", ".join([str(number + 1) for number in numbers]) + "."


def part_spans(at, line, params):
    """The spans of a line or an argument that stands at a place, one for each slot and each text between them."""
    return [(line[part[1]:part[2]], at + part[1]) for part in parts_of(line, params)]


def head_row(at, head, is_first):
    """The row of a head, whose line stands at a place; a first section's name comes from there."""
    name, params, is_file = head
    before = "file " if is_file else ""
    behind = "(" + ",".join(params) + ")" + (" is" if is_first else " goes on")
    return ("", [(before, None), (name, at + 1 if is_first else None), (behind + "\n", None)])


def use_spans(at, use, params, first):
    """The spans of a use, whose line stands at a place; first is the number of the piece's first section."""
    kind, indent, name, arguments = use
    spans = [(" " * indent, at + 1), (f"<{name} {first + 1}>", None)]
    for number, (start, argument) in enumerate(placed_arguments(at, use)):
        spans.append(("," if number > 0 else "(", None))
        spans.extend(part_spans(start, argument, params))
    spans.append((")\n" if arguments else "\n", None))
    return spans


def code_row(at, line, params, found):
    """The row of a code line, whose line stands at a place."""
    if line[0] == "use":
        spans = use_spans(at, line, params, found[line[2]][0])
    else:
        spans = part_spans(at + 1, line[1], params) + [("\n", at + 1 + len(line[1]))]
    return (CODE_MARGIN, [(CODE_MARGIN, None)] + spans)


def reference_rows(web, name, numbers):
    """The rows of the lines that a piece's first section ends with."""
    rows = []
    if len(numbers) > 1:
        rows.append(made_row("See also " + numbers_told(numbers[1:])))
    users = [number for number in range(len(web)) if name in names_used(web, [number])]
    if users:
        rows.append(made_row("Used in " + numbers_told(users)))
    return rows


def section_rows(web, section, places, found):
    """The rows of a section."""
    prose, head, code = web[section]
    rows = [made_row(f"Section {section + 1}.")]
    for number, line in enumerate(prose):
        rows.append(("", [(line + "\n", places[(section, "prose", number)] + 1)]))
    if head is None:
        return rows
    numbers = found[head[0]]
    is_first = section == numbers[0]
    rows.append(head_row(places[(section, "head", 0)], head, is_first))
    for number, line in enumerate(code):
        rows.append(code_row(places[(section, "code", number)], line, head[1], found))
    if is_first:
        rows.extend(reference_rows(web, head[0], numbers))
    return rows


def woven_rows(web):
    """The rows of the woven text of a whole web, each (margin, spans)."""
    places = line_places(web)
    found = sections_by_name(web)
    rows = []
    for section in range(len(web)):
        rows.extend(section_rows(web, section, places, found))
    rows.append(made_row("Index"))
    for name in sorted(list(found)):
        rows.append(made_row(name + ": " + numbers_told(found[name])))
    return rows


def woven_spans(web):
    """The spans of the woven text of a whole web."""
    return [span for margin, spans in woven_rows(web) for span in spans]
