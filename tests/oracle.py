"""A second way to tell which texts can be read, heads apart, and where others go wrong.

The texts that can be read are told by an expression, the texts that can go on
by trying what may stand behind them.
"""

import re

LINE = "[ -$&-~]*"
WORD = "[a-z]{1,8}"
EDGE = "[!-$&'*+.-~-]"
ARGUMENT = EDGE + "(?:[ -$&'*+.-~-]*" + EDGE + ")?"


def joined(part):
    return "(?:" + part + "(?:," + part + "){0,2})?"


FILE = r"\*" + WORD + r"\(\)\n"
PIECE = "=" + WORD + r"\(" + joined(WORD) + r"\)\n"
PLAIN = r"\|" + LINE + r"\n"
USE = "> {0,20}" + WORD + r"\(" + joined(ARGUMENT) + r"\)\n"
SECTION = r"@\n(?:\." + LINE + r"\n)*(?:(?:" + FILE + "|" + PIECE + ")(?:" + PLAIN + "|" + USE + ")*)?"
TEXT = re.compile("(?:" + SECTION + ")*")
SHELF_TEXT = re.compile("(?:" + SECTION + "|<" + WORD + r"\n)*")

# Each begun line can be ended by one of these; three words so that one is unlike the two params ahead.
ENDS = ("", "\n", "a\n", "()\n", "a()\n", ")\n", "q)\n", "w)\n", "y)\n")


def can_be_read(text, form=TEXT):
    if form.fullmatch(text) is None:
        return False
    for line in text.split("\n"):
        if line.startswith("="):
            params = line[line.index("(") + 1:-1].split(",")
            if len(set(params)) < len(params):
                return False
    return True


def can_go_on(text, form):
    return any(can_be_read(text + end, form) for end in ENDS)


def first_fault(text, form=TEXT):
    """The place at which a text goes wrong or ends too early, None if it can be read."""
    if can_be_read(text, form):
        return None
    low, high = 0, len(text) + 1
    while high - low > 1:
        middle = (low + high) // 2
        if can_go_on(text[:middle], form):
            low = middle
        else:
            high = middle
    return low
