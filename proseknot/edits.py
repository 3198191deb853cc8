"""Edits of texts, and papers, which are edits of several texts."""

from proseknot.basics import is_line_sign, is_number, is_word
from proseknot.errors import Clash, InvalidEdit


def is_edit(value):
    """Whether any value is an edit."""
    if not isinstance(value, tuple) or len(value) != 3:
        return False
    start, end, new = value
    if not is_number(start) or not is_number(end) or start > end:
        return False
    return isinstance(new, str) and all([sign == "\n" or is_line_sign(sign) for sign in new])


def check_edit(text, edit):
    """Raises InvalidEdit if any value is no edit of this text."""
    if not is_edit(edit) or edit[1] > len(text):
        raise InvalidEdit(edit)


def edited(text, edit):
    """The text with the edit done."""
    check_edit(text, edit)
    start, end, new = edit
    return text[:start] + new + text[end:]


def is_named_edit(value):
    """Whether any value is an edit behind the name of its text."""
    if not isinstance(value, tuple) or len(value) != 4:
        return False
    return (value[0] == "" or is_word(value[0])) and is_edit(value[1:])


def may_follow(one, other):
    """Whether the second of two named edits may stand next to the first in a paper."""
    if one[0] != other[0]:
        return one[0] < other[0]
    # Only two empty edits at one place begin and end alike here.
    return one[2] <= other[1] and one[1:3] != other[1:3]


def is_paper(value):
    """Whether any value is a paper, whatever the texts."""
    if not isinstance(value, tuple) or not all([is_named_edit(part) for part in value]):
        return False
    return all([may_follow(one, other) for one, other in zip(value, value[1:])])


def edits_of(paper, name):
    """The edits of a paper that are those of one text."""
    return [part[1:] for part in paper if part[0] == name]


def changed_text(text, edits):
    """The text with several edits, ascending and apart, done at once."""
    texts = []
    at = 0
    for start, end, new in edits:
        texts.append(text[at:start] + new)
        at = end
    return "".join(texts) + text[at:]


def changed_by(texts, paper):
    """The pairs of names and texts with the paper's edits of each done at once."""
    return tuple([(name, changed_text(text, edits_of(paper, name))) for name, text in texts])


def growth(edit):
    """How many signs longer an edit makes a text."""
    start, end, new = edit
    return len(new) - (end - start)


def overlaps(one, other):
    """Whether two edits of one text overlap."""
    if one[0] == one[1] or other[0] == other[1]:
        return one[0] <= other[1] and other[0] <= one[1]
    return one[0] < other[1] and other[0] < one[1]


def moved(edit, earlier):
    """Where an edit stands when earlier ones, which do not overlap it, are done first."""
    start, end, new = edit
    by = sum([growth(other) for other in earlier if other[1] <= start])
    return (start + by, end + by, new)


def shifted(edit, paper, name):
    """Where an edit of a text stands when the paper's edits of it are done first."""
    earlier = edits_of(paper, name)
    if any([overlaps(edit, other) for other in earlier]):
        raise Clash("place")
    return moved(edit, earlier)
