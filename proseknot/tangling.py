"""Files: their texts, from where each sign comes, and to where each sign of a web goes."""

from proseknot.errors import InvalidNumber, NoText
from proseknot.order import check_whole
from proseknot.spreading import file_lines, spans_text
from proseknot.webs import file_names
from proseknot.webtext import web_text
from proseknot.woventext import woven_spans


def asked_lines(web, name):
    """The lines of a file, each (way, margin, spans), for calls that ask for it."""
    check_whole(web)
    if name not in file_names(web):
        raise NoText(name)
    return file_lines(web, name)


def tangled(web, name):
    """The text of a file."""
    return "".join([spans_text(spans) for way, margin, spans in asked_lines(web, name)])


def springs(web, name):
    """Each sign of a file's text, the place in web_text from which it comes, and the way of its line."""
    lines = asked_lines(web, name)
    return tuple([
        (sign, at + k, way)
        for way, margin, spans in lines
        for text, at in spans
        for k, sign in enumerate(text)
    ])


def places_from(spans, at):
    """The places in the text of spans that come from a place of web_text."""
    found = []
    place = 0
    for text, start in spans:
        if start is not None and start <= at < start + len(text):
            found.append(place + at - start)
        place += len(text)
    return found


def places_of(web, at):
    """The texts and places to which the sign at a place of web_text goes."""
    length = len(web_text(web))
    if not 0 <= at < length:
        raise InvalidNumber(at)
    check_whole(web)
    pairs = []
    for name in file_names(web):
        spans = [span for way, margin, row in file_lines(web, name) for span in row]
        pairs.extend([(name, place) for place in places_from(spans, at)])
    pairs.extend([("", place) for place in places_from(woven_spans(web), at)])
    return tuple(pairs)
