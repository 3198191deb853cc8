"""What stands where in the texts of a web."""

from proseknot.contents import contents_of, runs_of
from proseknot.spreading import file_lines, spans_text
from proseknot.weaving import WOVEN, text_names
from proseknot.woventext import woven_rows


class Occurrence:
    """A run as it stands in a text.

    Each of its lines is (start, feed): the places of the first sign of its
    margin and of its line feed.
    """

    def __init__(self, run, margin):
        self.source = run
        self.margin = margin
        self.lines = []


class Layout:
    """A text, its zones, ascending, and the occurrences of runs in it.

    A zone is (kind, start, end, key), kind being one of
    "made": made signs, or those of a piece's name,
    "margin": blanks of a margin or indent, but
    "lead": those of the margin of a line of a run,
    "line": such a line, perhaps an empty one, without margin and line feed,
    "content": an occurrence of the content whose place in the web's text key is.
    Slots and line feeds have no zones.
    """

    def __init__(self, contents, runs):
        self.contents = contents
        self.runs = runs
        self.text = ""
        self.zones = []
        self.occurrences = []

    def add_row(self, margin, spans):
        """Adds a line of the text, its spans behind the margin that a run would have here."""
        start = len(self.text)
        self.text += spans_text(spans)
        last, at = spans[-1]
        feed = None if at is None else at + len(last) - 1
        if feed in self.runs:
            self.add_line_of_run(start, margin, self.runs[feed])
        else:
            self.add_spans(start, spans)

    def add_line_of_run(self, start, margin, told):
        """Adds the zones of a line of a run, which is the last one of the text."""
        run, number, length = told
        feed = len(self.text) - 1
        self.zones.append(("lead", start, feed - length, None))
        self.zones.append(("line", feed - length, feed, None))
        # The lines of a run come one behind the other, so the first one tells that it stands here once more.
        if number == 0:
            self.occurrences.append(Occurrence(run, margin))
        self.occurrences[-1].lines.append((start, feed))

    def add_spans(self, start, spans):
        """Adds the zones of a line of no run."""
        for text, at in spans:
            kind = self.kind_of(text, at)
            if kind is not None:
                self.zones.append((kind, start, start + len(text), at))
            start += len(text)

    def kind_of(self, text, at):
        """The kind of the zone of a span in a line of no run, None if it has none."""
        if text == "":
            return None
        if at is None:
            return "made"
        if at in self.contents:
            return "content"
        # What is left is a slot, a line feed, a row of blanks or the name of a piece, as its first sign tells.
        if text[0] in ("{", "\n"):
            return None
        return "margin" if text[0] == " " else "made"


def rows_of(web, name):
    """The lines of a text of a whole web, each (margin, spans)."""
    if name == WOVEN:
        return woven_rows(web)
    return [(spans_text(margin), spans) for way, margin, spans in file_lines(web, name)]


def layouts_of(web):
    """A dict of the layouts of all texts of a whole web, by their names."""
    contents = contents_of(web)
    runs = runs_of(web)
    layouts = {}
    for name in text_names(web):
        layout = Layout(contents, runs)
        for margin, spans in rows_of(web, name):
            layout.add_row(margin, spans)
        layouts[name] = layout
    return layouts
