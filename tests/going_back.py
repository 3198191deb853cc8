"""A second way to go back, sign by sign from the document's words, on the texts that `reference` makes.

Texts are lists of signs with their places in the web's text. Contents and runs
are told by places there, and so are their occurrences.
"""

import re

from proseknot.webs import is_web
from proseknot.webtext import web_text
from tests.reference import HEAD, USE, file_springs, joined, lines_with_places, pieces_of_text, woven_signs


def slots_in(line, params):
    if not params:
        return []
    return [match.span() for match in re.finditer("[{](?:" + "|".join(params) + ")[}]", line)]


def texts_between(start, line, params):
    """The places in the web's text of the parts of text of a line, or argument, that begins at start."""
    spans = []
    at = 0
    for first, last in slots_in(line, params) + [(len(line), len(line))]:
        spans.append((start + at, start + first))
        at = last
    return [span for span in spans if span[0] < span[1]]


class Told:
    """What stands where in the web's text."""

    def __init__(self, web):
        self.contents = []
        self.arguments = {}
        self.slots = 0
        self.runs = []
        self.names = set()
        self.indents = set()
        params, before = [], None
        for row in lines_with_places(web):
            line, at = joined(row), row[0][1]
            kind = None
            if line[0] in "=*":
                name, told = HEAD.match(line).groups()
                self.names |= set(range(at + 1, at + 1 + len(name)))
                params = [param for param in told.split(",") if param]
            elif line[0] == ".":
                kind = "."
            elif line[0] == "|" and slots_in(line[1:-1], params):
                self.contents += texts_between(at + 1, line[1:-1], params)
                self.slots += len(slots_in(line[1:-1], params))
            elif line[0] == "|":
                kind = "|"
            elif line[0] == ">":
                self.add_use(line, at, params)
            if kind:
                if kind != before:
                    self.runs.append([])
                self.runs[-1].append((at + 1, at + len(line) - 1))
            before = kind

    def add_use(self, line, at, params):
        blanks, _, _ = USE.match(line).groups()
        self.indents |= set(range(at + 1, at + 1 + len(blanks)))
        start, end = USE.match(line).span(3)
        for match in re.finditer("[^,]+", line[start:end]):
            whole = (at + start + match.start(), at + start + match.end())
            self.slots += len(slots_in(match.group(), params))
            for content in texts_between(whole[0], match.group(), params):
                self.contents.append(content)
                self.arguments[content] = whole


class Text:
    """A text: its signs, the occurrences of contents in it, and those of runs with their margins."""

    def __init__(self, web, told, name):
        self.is_file = name != ""
        signs = file_springs(web, name) if self.is_file else [pair + ((),) for pair in woven_signs(web)]
        self.signs = "".join(sign[0] for sign in signs)
        self.places = [sign[1] for sign in signs]
        self.contents = []
        self.runs = []
        for content in told.contents:
            for at, place in enumerate(self.places):
                if place == content[0]:
                    self.contents.append((content, at, at + content[1] - content[0]))
        text = web_text(web)
        ends = [at for at, sign in enumerate(self.signs) if sign == "\n"]
        starts = [0] + [at + 1 for at in ends]
        for run in told.runs:
            for number, (start, end) in enumerate(run):
                for row, feed in enumerate(ends):
                    if self.places[feed] == end:
                        if number == 0:
                            way = signs[feed][2]
                            margin = "".join(re.match(" *", text[at + 1:]).group() for at in way)
                            if not self.is_file and text[start - 1] == "|":
                                margin = "  "
                            rows = [(starts[row + k], ends[row + k]) for k in range(len(run))]
                            self.runs.append((run, margin, rows))


def in_margin(text, run, at):
    """Whether a place is in a margin of this occurrence of a run, None if so and its line feed is ahead of it."""
    for (start, feed), (first, last) in zip(run[2], run[0]):
        if start <= at < feed - (last - first):
            return start
    return None


def reason_made(text, told, start, end):
    if start == end:
        return holder(text, start) is None
    for at in range(start, end):
        if text.places[at] is None and all(in_margin(text, run, at) is None for run in text.runs):
            return True
        if text.places[at] in told.names:
            return True
    return False


def reason_margin(text, told, start, end):
    for at in range(start, end):
        firsts = [in_margin(text, run, at) for run in text.runs]
        firsts = [first for first in firsts if first is not None]
        if firsts:
            if not start <= firsts[0] - 1:
                return True
        elif text.places[at] in told.indents:
            return True
    return False


def holder(text, place):
    """The content's or run's occurrence that has a place, None if there is none."""
    spans = [(first, last, occurrence) for occurrence in text.contents for first, last in [occurrence[1:]]]
    for run in text.runs:
        for (start, feed), (first, last) in zip(run[2], run[0]):
            spans.append((feed - (last - first), feed, run))
    for first, last, occurrence in spans:
        if first < place < last or (place == last and first < last):
            return occurrence
    for first, last, occurrence in spans:
        if first == place:
            return occurrence
    return None


def standing(text, start, end):
    """The occurrence in which all signs stand, None if they do not stand in one."""
    if start == end:
        return holder(text, start)
    signs = set(range(start, end))
    for occurrence in text.contents:
        if signs <= set(range(*occurrence[1:])):
            return occurrence
    for run in text.runs:
        if signs <= set(range(run[2][0][0], run[2][-1][1])):
            return run
    return None


def contents_told(web):
    """The texts of the contents, and behind them how many slots there are."""
    text = web_text(web)
    told = Told(web)
    return [text[start:end] for start, end in told.contents] + [told.slots]


def code_with(line, argument, signs):
    if line[0] == "plain":
        return ("plain", signs)
    arguments = list(line[3])
    arguments[argument] = signs
    return line[:3] + (tuple(arguments),)


def section_of_place(web, at):
    """The section, whether prose or code (0, 2), and the number of the line of a place in the web's text."""
    lines = web_text(web)[:at].split("\n")[:-1]
    section = lines.count("@") - 1
    begun = len(lines) - lines[::-1].index("@")
    mine = lines[begun:]
    prose = len([line for line in mine if line[:1] == "."])
    return section, prose, len([line for line in mine if line[:1] in ("|", ">")])


def replaced(web, section, part, first, last, lines):
    told = list(web[section])
    told[part] = told[part][:first] + tuple(lines) + told[part][last:]
    return web[:section] + (tuple(told),) + web[section + 1:]


def too_long(web):
    for prose, _, code in web:
        lines = list(prose)
        for line in code:
            lines += [line[1]] if line[0] == "plain" else list(line[3])
        if len(prose) > 6 or len(code) > 8 or any(len(line) > 40 for line in lines):
            return True
    return False


def content_back(web, told, texts, occurrence, edit):
    """The new web and paper of an edit in a content, or the reason why there is none."""
    start, end, new = edit
    content, first, last = occurrence
    if "\n" in new:
        return "line"
    text = web_text(web)
    section, _, number = section_of_place(web, content[0])
    line = web[section][2][number]
    argument = None
    whole = told.arguments.get(content)
    if whole is None:
        begun = text.rindex("\n", 0, content[0]) + 2
        whole = (begun, text.index("\n", begun))
    else:
        argument = text[text.rindex("(", 0, content[0]):content[0]].count(",")
    at = content[0] + start - first
    signs = text[whole[0]:at] + new + text[at + end - start:whole[1]]
    new_web = replaced(web, section, 2, number, number + 1, [code_with(line, argument, signs)])
    if not is_web(new_web):
        return "shape"
    known = contents_told(web)
    mine = told.contents.index(content)
    changed = text[content[0]:at] + new + text[at + end - start:content[1]]
    known[mine:mine + 1] = [changed] if changed else []
    if contents_told(new_web) != known:
        return "slot"
    if too_long(new_web):
        return "limit"
    paper = []
    for name, other in texts.items():
        for found in other.contents:
            if found[0] == content:
                paper.append((name, found[1] + start - first, found[1] + end - first, new))
    return new_web, paper


def run_back(web, name, texts, occurrence, edit):
    """The new web and paper of an edit in a run, or the reason why there is none."""
    start, end, new = edit
    text = texts[name]
    run, margin, rows = occurrence
    first = [k for k, (begin, feed) in enumerate(rows) if begin <= start <= feed][0]
    last = [k for k, (begin, feed) in enumerate(rows) if begin <= end <= feed][0]
    done = text.signs[rows[0][0]:start] + new + text.signs[end:rows[-1][1]]
    lines = []
    for line in done.split("\n"):
        if text.is_file and line == "":
            lines.append("")
        elif line[:len(margin)] != margin or (text.is_file and margin != "" and line == margin):
            return "prefix"
        else:
            lines.append(line[len(margin):])
    section, prose, code = section_of_place(web, run[0][0])
    is_prose = web_text(web)[run[0][0] - 1] == "."
    at = prose if is_prose else code
    told = lines if is_prose else [("plain", line) for line in lines]
    new_web = replaced(web, section, 0 if is_prose else 2, at, at + len(run), told)
    if not is_web(new_web):
        return "shape"
    if contents_told(new_web) != contents_told(web):
        return "slot"
    if too_long(new_web):
        return "limit"
    behind = len(rows) - 1 - last
    touched = lines[first:len(lines) - behind]
    paper = []
    for told, other in texts.items():
        for found in other.runs:
            if told == name and found is occurrence:
                paper.append((name, start, end, new))
            elif found[0] == run:
                ahead = ["" if other.is_file and not line else found[1] for line in touched]
                put = "\n".join(blanks + line for blanks, line in zip(ahead, touched))
                paper.append((told, found[2][first][0], found[2][last][1], put))
    return new_web, paper


def all_texts(web):
    """What is told of the web's text, and its texts by name, "" the last one."""
    told = Told(web)
    names = [name for name, piece in pieces_of_text(web).items() if piece["file"]] + [""]
    return told, {name: Text(web, told, name) for name in names}


def goes_back(web, name, edit, known=None):
    """A pair (web, paper), or the reason why an edit is refused."""
    told, texts = known or all_texts(web)
    text = texts[name]
    start, end, new = edit
    if reason_made(text, told, start, end):
        return "made"
    if reason_margin(text, told, start, end):
        return "margin"
    occurrence = standing(text, start, end)
    if occurrence is None:
        return "bounds"
    if occurrence in text.contents:
        found = content_back(web, told, texts, occurrence, edit)
    else:
        found = run_back(web, name, texts, occurrence, edit)
    if isinstance(found, str):
        return found
    if found[0] == web:
        return web, ()
    return found[0], tuple(sorted(found[1]))
