"""A desk, on which a web is worked at line by line."""

from proseknot.backing import gone_back
from proseknot.basics import is_word
from proseknot.errors import InvalidLine, NothingToUndo
from proseknot.order import faults
from proseknot.structure import renamed, section_dropped, section_moved, split_off, use_filled
from proseknot.weaving import WOVEN, text_of
from proseknot.webtext import read_web

FIGURES = "0123456789"

# What a line's parts are, behind its first word.
FORMS = {
    "edit": ("text", "number", "number", "new"),
    "rename": ("word", "word"),
    "drop": ("number",),
    "move": ("number", "number"),
    "fill": ("number", "number"),
    "split": ("number", "number", "number", "word"),
    "undo": (),
    "redo": (),
    "show": ("text",),
    "faults": (),
}


def is_numeral(part):
    """Whether a part is a number by figures, without a needless 0."""
    if part == "" or (part[0] == "0" and part != "0"):
        return False
    return all([sign in FIGURES for sign in part])


def number_told(part):
    """The number of a numeral, however long it is."""
    number = 0
    for sign in part:
        number = number * 10 + FIGURES.index(sign)
    return number


def is_right(kind, part):
    """Whether a part is one of its kind."""
    if kind == "number":
        return is_numeral(part)
    if kind == "new":
        return True
    return is_word(part) or (kind == "text" and part == "-")


def worth_of(kind, part):
    """What a right part stands for."""
    if kind == "number":
        return number_told(part)
    if kind == "new":
        return part.replace("~", "\n")
    return WOVEN if part == "-" else part


def parts_told(line):
    """The first word of a line, and what its parts behind it stand for."""
    word = line.split(" ")[0]
    if word not in FORMS:
        raise InvalidLine(line, 0)
    at = len(word)
    told = []
    for kind in FORMS[word]:
        if at == len(line):
            raise InvalidLine(line, at)
        # A blank stands here; the part behind it goes up to the next one, or the line's end.
        at += 1
        part = line[at:] if kind == "new" else line[at:].split(" ")[0]
        if not is_right(kind, part):
            raise InvalidLine(line, at)
        told.append(worth_of(kind, part))
        at += len(part)
    if at < len(line):
        raise InvalidLine(line, at + 1)
    return word, told


def restructured(web, word, told):
    """The web that a line makes that is no edit."""
    if word == "rename":
        return renamed(web, *told)
    if word == "drop":
        return section_dropped(web, *told)
    if word == "move":
        return section_moved(web, *told)
    if word == "fill":
        return use_filled(web, *told)
    return split_off(web, *told)


class Desk:
    """A web, the lines that led to it, and those that were undone."""

    def __init__(self, text):
        self.now = read_web(text)
        self.lines = ()
        self.earlier = []
        self.undone = []

    def web(self):
        """The web as it is now."""
        return self.now

    def text(self, name):
        """A text of the web as it is now."""
        return text_of(self.now, name)

    def run(self, line):
        """Does a line, and returns its answer."""
        word, told = parts_told(line)
        if word == "show":
            return self.text(told[0])
        if word == "faults":
            return str(len(faults(self.now)))
        if word == "undo":
            return self.undo()
        if word == "redo":
            return self.redo()
        return self.change(line, word, told)

    def change(self, line, word, told):
        """Does a line that is kept."""
        answer = ""
        if word == "edit":
            name, start, end, new = told
            web, paper = gone_back(self.now, name, (start, end, new))
            answer = str(len(paper))
        else:
            web = restructured(self.now, word, told)
        self.keep(line, web)
        self.undone = []
        return answer

    def keep(self, line, web):
        """Keeps a line that was done, and the web to which it led."""
        self.earlier.append(self.now)
        self.now = web
        self.lines = self.lines + (line,)

    def undo(self):
        """Takes the last line back."""
        if not self.earlier:
            raise NothingToUndo("undo")
        self.undone.append((self.lines[-1], self.now))
        self.now = self.earlier.pop()
        self.lines = self.lines[:-1]
        return ""

    def redo(self):
        """Does again the line that was taken back last."""
        if not self.undone:
            raise NothingToUndo("redo")
        line, web = self.undone.pop()
        self.keep(line, web)
        return ""


def replayed(text, lines):
    """A desk on which lines were run."""
    desk = Desk(text)
    for line in lines:
        desk.run(line)
    return desk
