"""Shelves: texts of webs that include one another."""

from proseknot.backing import gone_back
from proseknot.errors import InvalidText, NoText, Refused, Undefined
from proseknot.reading import Reader
from proseknot.webtext import web_text


class Shelf:
    """The texts of a shelf, those that were read as parts, and whether one comes to include itself."""

    def __init__(self, pairs):
        self.texts = {word: text for word, text in pairs}
        self.parts = {}
        self.has_circle = False

    def read(self, word, way):
        """Reads a text, come to by a way of words, and those that it includes and that are not read yet."""
        if word not in self.texts:
            raise NoText(word)
        parts = Reader(self.texts[word]).read_shelf_text()
        self.parts[word] = parts
        way = way + (word,)
        for start, end, section, included in parts:
            if included in way:
                self.has_circle = True
            elif included is not None and included not in self.parts:
                self.read(included, way)

    def sections(self, word):
        """The sections from a text on: each (word of its text, its number there, start, end, section)."""
        found = []
        number = 0
        for start, end, section, included in self.parts[word]:
            if included is not None:
                found.extend(self.sections(included))
            else:
                found.append((word, number, start, end, section))
                number += 1
        return found


def head_place(start, prose):
    """The place of the head's line of a section that begins at a place of its text."""
    return start + len("@\n") + sum([len(line) + 2 for line in prose])


def sections_from(shelf, word):
    """The sections of the web that a shelf tells from a text on, as Shelf tells them."""
    told = Shelf(shelf)
    told.read(word, ())
    if told.has_circle:
        raise Undefined("circle")
    found = told.sections(word)
    earlier = {}
    for source, number, start, end, (prose, head, code) in found:
        if head is not None and earlier.setdefault(head[0], head) != head:
            raise InvalidText(told.texts[source], head_place(start, prose))
    return found


def shelf_web(shelf, word):
    """The web that a shelf tells from a text on."""
    return tuple([found[4] for found in sections_from(shelf, word)])


def shelf_springs(shelf, word):
    """The text from which each section of the web comes, and its number there."""
    return tuple([found[:2] for found in sections_from(shelf, word)])


def shelf_gone_back(shelf, word, name, edit):
    """The shelf into which an edit of a text of its web goes back."""
    sections = sections_from(shelf, word)
    web = tuple([found[4] for found in sections])
    new_web, paper = gone_back(web, name, edit)
    pairs = [(told, text) for told, text in shelf]
    for found, new in zip(sections, new_web):
        source, number, start, end, section = found
        if section != new:
            if [other[:2] for other in sections].count((source, number)) > 1:
                raise Refused("twice")
            pairs = [(told, text[:start] + web_text((new,)) + text[end:] if told == source else text)
                     for told, text in pairs]
    return tuple(pairs)
