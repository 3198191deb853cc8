"""The woven text, and the texts of a web by their names."""

from proseknot.order import check_whole
from proseknot.spreading import spans_text
from proseknot.tangling import tangled
from proseknot.webs import file_names
from proseknot.woventext import woven_spans

WOVEN = ""


def woven(web):
    """The woven text of a web."""
    check_whole(web)
    return spans_text(woven_spans(web))


def woven_springs(web):
    """Each sign of the woven text, and the place in web_text from which it comes, None if it is made."""
    check_whole(web)
    return tuple([
        (sign, None if at is None else at + k)
        for text, at in woven_spans(web)
        for k, sign in enumerate(text)
    ])


def text_names(web):
    """The names of the texts of a web: its files, then the woven one."""
    return file_names(web) + (WOVEN,)


def text_of(web, name):
    """The text of this name."""
    if name == WOVEN:
        return woven(web)
    return tangled(web, name)
