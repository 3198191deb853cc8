"""Going back: edits of texts taken into the web, with the papers that tell what follows in all texts."""

from proseknot.basics import is_argument
from proseknot.contents import params_in
from proseknot.edits import check_edit, edits_of, moved
from proseknot.errors import Refused
from proseknot.layout import layouts_of
from proseknot.slots import slots_of
from proseknot.weaving import WOVEN, text_of
from proseknot.webtext import web_text

MOST_SIGNS = 40
MOST_PROSE = 6
MOST_CODE = 8


def zones_hit(layout, edit, kind):
    """The zones of a kind that have a sign of those that an edit takes away."""
    start, end, new = edit
    return [zone for zone in layout.zones if zone[0] == kind and zone[1] < end and start < zone[2]]


def zone_at(layout, place):
    """The content or line of a run that has the place of an empty edit, None if there is none."""
    begun = None
    for zone in layout.zones:
        if zone[0] in ("content", "line"):
            if zone[1] < place <= zone[2]:
                return zone
            if zone[1] == place:
                begun = zone
    return begun


def check_made(layout, edit):
    """Refuses an edit of signs that are made, and an empty one where nothing takes it up."""
    start, end, new = edit
    if start == end:
        if zone_at(layout, start) is None:
            raise Refused("made")
    elif zones_hit(layout, edit, "made"):
        raise Refused("made")


def check_margin(layout, edit):
    """Refuses an edit of margins, but of those that it takes away with the line feed ahead."""
    leads = [zone for zone in zones_hit(layout, edit, "lead") if zone[1] - 1 < edit[0]]
    if leads or zones_hit(layout, edit, "margin"):
        raise Refused("margin")


def content_under(layout, edit):
    """The zone of the content that has all signs, or the place, of an edit, None if it is not in one."""
    start, end, new = edit
    if start == end:
        zone = zone_at(layout, start)
        return zone if zone[0] == "content" else None
    for zone in zones_hit(layout, edit, "content"):
        if zone[1] <= start and end <= zone[2]:
            return zone
    return None


def occurrence_under(layout, edit):
    """The occurrence of a run that has all signs, or the place, of an edit, None if it is not in one."""
    start, end, new = edit
    for occurrence in layout.occurrences:
        if occurrence.lines[0][0] <= start and end <= occurrence.lines[-1][1]:
            return occurrence
    return None


def content_change(web, layout, zone, edit):
    """What an edit in a content makes of its code line, as with_change takes it."""
    start, end, new = edit
    if "\n" in new:
        raise Refused("line")
    section, number, argument, first = layout.contents[zone[3]]
    line = web[section][2][number]
    signs = line[1] if argument is None else line[3][argument]
    at = first + start - zone[1]
    changed = signs[:at] + new + signs[at + end - start:]
    if argument is not None and not is_argument(changed):
        raise Refused("shape")
    params = params_in(web, section)
    # Slots stay where they are, since a content has none: only others can come up.
    if len(slots_of(changed, params)) > len(slots_of(signs, params)):
        raise Refused("slot")
    return (section, "code", number, number, [with_signs(line, argument, changed)])


def with_signs(line, argument, signs):
    """The code line with other signs in an argument, or as its plain line."""
    if argument is None:
        return ("plain", signs)
    kind, indent, name, arguments = line
    return (kind, indent, name, arguments[:argument] + (signs,) + arguments[argument + 1:])


def content_paper(layouts, key, offset, edit):
    """The edits of all occurrences of a content, the edit beginning at an offset in it."""
    start, end, new = edit
    paper = []
    for name in layouts:
        for kind, first, last, told in layouts[name].zones:
            if kind == "content" and told == key:
                paper.append((name, first + offset, first + offset + end - start, new))
    return paper


def line_with(occurrence, place):
    """The number of the line of a run that has a place, its line feed being its own."""
    return len([line for line in occurrence.lines if line[1] < place])


def lines_touched(occurrence, edit):
    """The numbers of the first and the last line of a run that an edit touches."""
    return line_with(occurrence, edit[0]), line_with(occurrence, edit[1])


def without_margin(line, margin, is_file):
    """A line of a run without its margin, as the web tells it."""
    if is_file and line == "":
        return ""
    if not line.startswith(margin) or (is_file and line == margin):
        raise Refused("prefix")
    return line[len(margin):]


def with_margin(line, margin, is_file):
    """A line of a run as it stands in a text."""
    return "" if is_file and line == "" else margin + line


def lines_of_run(layout, occurrence, edit, is_file):
    """What an edit makes of the lines of a run that it touches."""
    start, end, new = edit
    first, last = lines_touched(occurrence, edit)
    begin, finish = occurrence.lines[first][0], occurrence.lines[last][1]
    told = layout.text[begin:start] + new + layout.text[end:finish]
    return [without_margin(line, occurrence.margin, is_file) for line in told.split("\n")]


def run_change(web, occurrence, edit, lines):
    """What an edit in a run makes of its section, as with_change takes it."""
    section, kind, number = occurrence.source
    first, last = lines_touched(occurrence, edit)
    if kind == "code":
        params = params_in(web, section)
        if any([slots_of(line, params) for line in lines]):
            raise Refused("slot")
        lines = [("plain", line) for line in lines]
    return (section, kind, number + first, number + last, lines)


def run_paper(layouts, name, occurrence, edit, lines):
    """The edits of all occurrences of a run; in the one in which it was made, the edit itself."""
    first, last = lines_touched(occurrence, edit)
    paper = [(name,) + edit]
    for told in layouts:
        for other in layouts[told].occurrences:
            if other.source == occurrence.source and (told, other.lines) != (name, occurrence.lines):
                new = "\n".join([with_margin(line, other.margin, told != WOVEN) for line in lines])
                paper.append((told, other.lines[first][0], other.lines[last][1], new))
    return paper


def with_change(web, change):
    """The web with the lines first to last of a section, prose or code, replaced by others."""
    section, kind, first, last, lines = change
    prose, head, code = web[section]
    if kind == "prose":
        prose = prose[:first] + tuple(lines) + prose[last + 1:]
    else:
        code = code[:first] + tuple(lines) + code[last + 1:]
    return web[:section] + ((prose, head, code),) + web[section + 1:]


def longest_line(section):
    """How long the longest prose line, plain line or argument of a section is."""
    prose, head, code = section
    lines = list(prose)
    for line in code:
        lines.extend([line[1]] if line[0] == "plain" else line[3])
    return max([len(line) for line in lines], default=0)


def check_limits(web):
    """Refuses a web with a line or a section that is too long."""
    for prose, head, code in web:
        if len(prose) > MOST_PROSE or len(code) > MOST_CODE or longest_line((prose, head, code)) > MOST_SIGNS:
            raise Refused("limit")


def change_and_paper(web, name, edit):
    """What an edit of a text changes in the web, and all edits of texts that follow, in any sequence."""
    layouts = layouts_of(web)
    layout = layouts[name]
    check_made(layout, edit)
    check_margin(layout, edit)
    zone = content_under(layout, edit)
    if zone is not None:
        change = content_change(web, layout, zone, edit)
        return change, content_paper(layouts, zone[3], edit[0] - zone[1], edit)
    occurrence = occurrence_under(layout, edit)
    if occurrence is None:
        raise Refused("bounds")
    lines = lines_of_run(layout, occurrence, edit, name != WOVEN)
    change = run_change(web, occurrence, edit, lines)
    return change, run_paper(layouts, name, occurrence, edit, lines)


def gone_back(web, name, edit):
    """The web into which an edit of a text goes back, and the paper of what changes in all texts."""
    check_edit(text_of(web, name), edit)
    change, paper = change_and_paper(web, name, edit)
    new_web = with_change(web, change)
    check_limits(new_web)
    if new_web == web:
        return web, ()
    return new_web, tuple(sorted(paper))


def same_beginning(one, other):
    """How many signs two texts begin with alike."""
    at = 0
    while at < len(one) and at < len(other) and one[at] == other[at]:
        at += 1
    return at


def edit_between(old, new):
    """The edit that leads from one text to another, what they begin and then end with alike left out."""
    if old == new:
        return (0, 0, "")
    start = same_beginning(old, new)
    kept = same_beginning(old[start:][::-1], new[start:][::-1])
    return (start, len(old) - kept, new[start:len(new) - kept])


def back_edit(web, name, edit):
    """The edit of web_text to which an edit of a text comes."""
    new_web, paper = gone_back(web, name, edit)
    return edit_between(web_text(web), web_text(new_web))


def undone_by(web, name, edit):
    """The edit of the changed text that takes an edit back."""
    paper = gone_back(web, name, edit)[1]
    start, end, new = moved(edit, [other for other in edits_of(paper, name) if other != edit])
    return (start, start + len(new), text_of(web, name)[edit[0]:edit[1]])
