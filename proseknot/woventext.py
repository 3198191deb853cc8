"""The woven text, as a row of spans: pairs (text, at), at being None where the signs are made."""

from proseknot.webs import names_used, sections_by_name
from proseknot.webtext import line_places, placed_arguments

CODE_MARGIN = "  "


def made_line(text):
    """The span of a line that is made, its line feed too."""
    return (text + "\n", None)


def numbers_told(numbers):
    """The numbers of sections as the woven text tells them, from 1 on."""
    return ", ".join([str(number + 1) for number in numbers]) + "."


def head_spans(at, head, is_first):
    """The spans of a head, whose line stands at a place; a first section's name comes from there."""
    name, params, is_file = head
    before = "file " if is_file else ""
    behind = "(" + ",".join(params) + ")" + (" is" if is_first else " goes on")
    return [(before, None), (name, at + 1 if is_first else None), made_line(behind)]


def use_spans(at, use, first):
    """The spans of a use, whose line stands at a place; first is the number of the piece's first section."""
    kind, indent, name, arguments = use
    spans = [(CODE_MARGIN, None), (" " * indent, at + 1), (f"<{name} {first + 1}>", None)]
    for number, (start, argument) in enumerate(placed_arguments(at, use)):
        spans.append(("," if number > 0 else "(", None))
        spans.append((argument, start))
    spans.append(made_line(")" if arguments else ""))
    return spans


def code_spans(at, line, found):
    """The spans of a code line, whose line stands at a place."""
    if line[0] == "use":
        return use_spans(at, line, found[line[2]][0])
    return [(CODE_MARGIN, None), (line[1] + "\n", at + 1)]


def reference_spans(web, name, numbers):
    """The spans of the lines that a piece's first section ends with."""
    spans = []
    if len(numbers) > 1:
        spans.append(made_line("See also " + numbers_told(numbers[1:])))
    users = [number for number in range(len(web)) if name in names_used(web, [number])]
    if users:
        spans.append(made_line("Used in " + numbers_told(users)))
    return spans


def section_spans(web, section, places, found):
    """The spans of a section."""
    prose, head, code = web[section]
    spans = [made_line(f"Section {section + 1}.")]
    for number, line in enumerate(prose):
        spans.append((line + "\n", places[(section, "prose", number)] + 1))
    if head is None:
        return spans
    numbers = found[head[0]]
    is_first = section == numbers[0]
    spans.extend(head_spans(places[(section, "head", 0)], head, is_first))
    for number, line in enumerate(code):
        spans.extend(code_spans(places[(section, "code", number)], line, found))
    if is_first:
        spans.extend(reference_spans(web, head[0], numbers))
    return spans


def woven_spans(web):
    """The spans of the woven text of a whole web."""
    places = line_places(web)
    found = sections_by_name(web)
    spans = []
    for section in range(len(web)):
        spans.extend(section_spans(web, section, places, found))
    spans.append(made_line("Index"))
    for name in sorted(list(found)):
        spans.append(made_line(name + ": " + numbers_told(found[name])))
    return spans
