"""Numbers, signs, words and lines, and how long and how many they are."""

# The percent sign, which no string of the package may hold.
PERCENT = 37

WORD_LENGTH = 8
MOST_PARAMS = 3
MOST_ARGUMENTS = 3
MOST_INDENT = 20


def is_number(value):
    """Whether any value is an integer from 0 on."""
    return isinstance(value, int) and not isinstance(value, bool) and value >= 0


def is_letter(sign):
    """Whether a sign is one of a word; "" is none."""
    return "a" <= sign <= "z"


def is_line_sign(sign):
    """Whether a sign may stand in a line; "" may not."""
    return " " <= sign <= "~" and ord(sign) != PERCENT


def is_argument_sign(sign):
    """Whether a sign may stand in an argument; "" may not."""
    return is_line_sign(sign) and sign not in (",", "(", ")")


def is_word(value):
    """Whether any value is a word."""
    if not isinstance(value, str):
        return False
    return 1 <= len(value) <= WORD_LENGTH and all([is_letter(sign) for sign in value])


def is_line(value):
    """Whether any value is a line."""
    return isinstance(value, str) and all([is_line_sign(sign) for sign in value])


def is_argument(value):
    """Whether any value is an argument of a use."""
    if not isinstance(value, str) or value == "":
        return False
    if value[0] == " " or value[-1] == " ":
        return False
    return all([is_argument_sign(sign) for sign in value])
