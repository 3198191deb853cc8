"""Webs: what they are, and the pieces that their sections tell."""

from proseknot.basics import MOST_ARGUMENTS, MOST_INDENT, MOST_PARAMS
from proseknot.basics import is_argument, is_line, is_number, is_word
from proseknot.errors import InvalidWeb, NoPiece


def is_web(value):
    """Whether any value is a web, of any number of sections, lines and signs."""
    if not isinstance(value, tuple) or not all([is_section(part) for part in value]):
        return False
    return heads_agree(value)


def is_section(value):
    """Whether any value is a section."""
    if not isinstance(value, tuple) or len(value) != 3:
        return False
    prose, head, code = value
    if not isinstance(prose, tuple) or not all([is_line(line) for line in prose]):
        return False
    if not isinstance(code, tuple) or not all([is_code_line(line) for line in code]):
        return False
    if head is None:
        return code == ()
    return is_head(head)


def is_head(value):
    """Whether any value is the head of a section that tells a piece."""
    if not isinstance(value, tuple) or len(value) != 3:
        return False
    name, params, is_file = value
    if not is_word(name) or not are_params(params) or not isinstance(is_file, bool):
        return False
    return params == () or not is_file


def are_params(value):
    """Whether any value is a tuple of params, all unlike."""
    if not isinstance(value, tuple) or len(value) > MOST_PARAMS:
        return False
    return all([is_word(param) and param not in value[:k] for k, param in enumerate(value)])


def is_code_line(value):
    """Whether any value is a code line: a plain one or a use."""
    if not isinstance(value, tuple):
        return False
    if len(value) == 2:
        return value[0] == "plain" and is_line(value[1])
    return len(value) == 4 and value[0] == "use" and is_use(value)


def is_use(value):
    """Whether a tuple of four values that begins with "use" is a use."""
    kind, indent, name, arguments = value
    if not is_number(indent) or indent > MOST_INDENT or not is_word(name):
        return False
    if not isinstance(arguments, tuple) or len(arguments) > MOST_ARGUMENTS:
        return False
    return all([is_argument(argument) for argument in arguments])


def heads_agree(sections):
    """Whether all sections of one name have one head."""
    heads = {}
    for prose, head, code in sections:
        if head is not None and heads.setdefault(head[0], head) != head:
            return False
    return True


def check_web(value):
    """Raises InvalidWeb if any value is no web."""
    if not is_web(value):
        raise InvalidWeb(value)


def sections_by_name(web):
    """A dict of the numbers of each piece's sections, in the order of the first ones."""
    found = {}
    for number, (prose, head, code) in enumerate(web):
        if head is not None:
            found.setdefault(head[0], []).append(number)
    return found


def names_used(web, numbers):
    """The names that the code of these sections uses, each once, in the order of first uses."""
    found = {}
    for number in numbers:
        for line in web[number][2]:
            if line[0] == "use":
                found[line[2]] = True
    return list(found)


def piece_names(web):
    """The names of the pieces, in the order of their first sections."""
    check_web(web)
    return tuple(list(sections_by_name(web)))


def file_names(web):
    """The names of the pieces that are files, in the order of their first sections."""
    check_web(web)
    found = sections_by_name(web)
    return tuple([name for name in found if web[found[name][0]][1][2]])


def sections_of(web, name):
    """The numbers of the sections that tell a piece."""
    check_web(web)
    found = sections_by_name(web)
    if name not in found:
        raise NoPiece(name)
    return tuple(found[name])


def params_of(web, name):
    """The params of a piece."""
    first = sections_of(web, name)[0]
    return web[first][1][1]


def code_of(web, name):
    """The code lines of a piece, each behind its section and its number there."""
    numbers = sections_of(web, name)
    return tuple([(number, k, line) for number in numbers for k, line in enumerate(web[number][2])])


def used_by(web, name):
    """The names that a piece uses, each once, in the order of first uses."""
    return tuple(names_used(web, sections_of(web, name)))


def users_of(web, name):
    """The names of the pieces that use this name, in the order of their first sections."""
    check_web(web)
    found = sections_by_name(web)
    return tuple([user for user in found if name in names_used(web, found[user])])
