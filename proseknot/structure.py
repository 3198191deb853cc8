"""Names and structure: webs made from a web by renaming, moving sections, filling uses, splitting off pieces."""

from proseknot.basics import is_word
from proseknot.errors import InvalidNumber, NoPiece, Refused, Undefined
from proseknot.order import check_whole
from proseknot.slots import parts_of, slots_of
from proseknot.webs import check_web, code_of, is_web, params_of, piece_names


def renamed_line(line, name, new):
    """A code line, the name of its use renamed."""
    if line[0] == "plain" or line[2] != name:
        return line
    kind, indent, used, arguments = line
    return (kind, indent, new, arguments)


def renamed_head(head, name, new):
    """A head, its name renamed."""
    if head is None or head[0] != name:
        return head
    return (new, head[1], head[2])


def renamed(web, name, new):
    """The web in which a piece has a new name."""
    names = piece_names(web)
    if name not in names:
        raise NoPiece(name)
    if not is_word(new) or (new != name and new in names):
        raise Refused("name")
    return tuple([
        (prose, renamed_head(head, name, new), tuple([renamed_line(line, name, new) for line in code]))
        for prose, head, code in web
    ])


def check_number(number, many):
    """Raises InvalidNumber unless a number is one of the first many from 0 on."""
    if not 0 <= number < many:
        raise InvalidNumber(number)


def with_section(web, number, section):
    """The web with a section put in at a number."""
    return web[:number] + (section,) + web[number:]


def without_section(web, number):
    """The web without the section of a number."""
    return web[:number] + web[number + 1:]


def section_added(web, number, section):
    """The web in which any value stands as a section at a number."""
    check_web(web)
    check_number(number, len(web) + 1)
    result = with_section(web, number, section)
    if not is_web(result):
        raise Refused("head")
    return result


def section_dropped(web, number):
    """The web without the section of a number."""
    check_web(web)
    check_number(number, len(web))
    return without_section(web, number)


def section_moved(web, number, to):
    """The web in which a section stands at another place of the web without it."""
    check_web(web)
    check_number(number, len(web))
    check_number(to, len(web))
    return with_section(without_section(web, number), to, web[number])


def use_at(web, section, number):
    """The use that is this code line of a section."""
    if 0 <= section < len(web) and 0 <= number < len(web[section][2]):
        line = web[section][2][number]
        if line[0] == "use":
            return line
    raise Undefined("use")


def filled_in(line, params, arguments, outer):
    """The line with the arguments in its slots, for a place where slots are those of the outer params."""
    signs = ""
    came = []
    for part in parts_of(line, params):
        told = line[part[1]:part[2]]
        if part[0] == "slot":
            told = arguments[part[3]]
            came.append((len(signs), len(signs) + len(told)))
        signs += told
    for slot in slots_of(signs, outer):
        if not any([start <= slot[1] and slot[2] <= end for start, end in came]):
            raise Refused("slot")
    return signs


def filled_line(line, use, params, outer):
    """A code line of a piece with these params, as it stands in place of a use of it."""
    kind, indent, name, arguments = use
    if line[0] == "plain":
        signs = filled_in(line[1], params, arguments, outer)
        return ("plain", signs if signs == "" else " " * indent + signs)
    told = tuple([filled_in(argument, params, arguments, outer) for argument in line[3]])
    return ("use", indent + line[1], line[2], told)


def with_code(web, section, code):
    """The web with other code in a section."""
    return web[:section] + ((web[section][0], web[section][1], code),) + web[section + 1:]


def use_filled(web, section, number):
    """The web in which a use is replaced by the code of its piece."""
    check_whole(web)
    use = use_at(web, section, number)
    params = params_of(web, use[2])
    prose, head, code = web[section]
    lines = tuple([filled_line(line, use, params, head[1]) for at, k, line in code_of(web, use[2])])
    result = with_code(web, section, code[:number] + lines + code[number + 1:])
    if not is_web(result):
        raise Refused("shape")
    return result


def slots_told(line, params):
    """The slots of a code line and of its arguments."""
    if line[0] == "plain":
        return slots_of(line[1], params)
    return [slot for argument in line[3] for slot in slots_of(argument, params)]


def split_off(web, section, number, many, name):
    """The web in which some code lines of a section are a new piece, and a use of it stands in their place."""
    check_web(web)
    check_number(section, len(web))
    prose, head, code = web[section]
    check_number(number, len(code))
    if not 1 <= many <= len(code) - number:
        raise InvalidNumber(many)
    if not is_word(name) or name in piece_names(web):
        raise Refused("name")
    lines = code[number:number + many]
    needed = [slot[3] for line in lines for slot in slots_told(line, head[1])]
    params = tuple([param for k, param in enumerate(head[1]) if k in needed])
    use = ("use", 0, name, tuple(["{" + param + "}" for param in params]))
    result = with_code(web, section, code[:number] + (use,) + code[number + many:])
    return result + (((), (name, params, False), lines),)
