"""Order and faults: what is wrong in a web's uses, circles, and what is used from a piece on."""

from proseknot.errors import NoPiece, NotWhole, Undefined
from proseknot.webs import check_web, file_names, names_used, sections_by_name


def uses_by_name(web):
    """A dict of the names that each piece uses, in the order of the pieces' first sections."""
    found = sections_by_name(web)
    return {name: names_used(web, found[name]) for name in found}


def uses_with(web, name):
    """The dict of uses_by_name, for calls that ask for a piece of it."""
    check_web(web)
    uses = uses_by_name(web)
    if name not in uses:
        raise NoPiece(name)
    return uses


def names_behind(uses, name):
    """A dict of the names used from a piece on, itself only if it comes to use itself."""
    found = {}
    waiting = list(uses[name])
    while waiting:
        used = waiting.pop()
        if used not in found:
            found[used] = True
            waiting.extend(uses.get(used, []))
    return found


def wrong_kinds(heads, use):
    """The kinds of faults of one use, in the sequence in which they are told."""
    kind, indent, name, arguments = use
    if name not in heads:
        return ["missing"]
    name, params, is_file = heads[name]
    kinds = []
    if len(arguments) != len(params):
        kinds.append("count")
    if is_file:
        kinds.append("file")
    return kinds


def use_faults(web):
    """The faults of the uses, in the order of the web's text."""
    heads = {head[0]: head for prose, head, code in web if head is not None}
    told = []
    for section, (prose, head, code) in enumerate(web):
        for number, line in enumerate(code):
            if line[0] == "use":
                told.extend([(kind, section, number, line[2]) for kind in wrong_kinds(heads, line)])
    return told


def faults(web):
    """The faults of the uses, then the pieces that come to use themselves."""
    check_web(web)
    uses = uses_by_name(web)
    circles = [("circle", name) for name in uses if name in names_behind(uses, name)]
    return tuple(use_faults(web) + circles)


def is_whole(web):
    """Whether a web has no faults."""
    return faults(web) == ()


def check_whole(web):
    """Raises NotWhole with the first fault if there is one."""
    told = faults(web)
    if told != ():
        raise NotWhole(told[0])


def circle_of(web, name):
    """The first of the shortest ways by which a piece comes to use itself."""
    uses = uses_with(web, name)
    # The ways of one length stand in Python's order, so only the first one to a name can lead to the answer.
    ways = [(name,)]
    seen = {}
    while ways:
        longer = []
        for way in ways:
            for used in sorted(uses.get(way[-1], [])):
                if used == name:
                    return way + (name,)
                if used not in seen:
                    seen[used] = True
                    longer.append(way + (used,))
        ways = longer
    raise Undefined("circle")


def circle_holds(web, way):
    """Whether any value is a way by which a piece comes to use itself, no other name standing in it twice."""
    check_web(web)
    if not isinstance(way, tuple) or not all([isinstance(name, str) for name in way]):
        return False
    if len(way) < 2 or way[0] != way[-1] or len(set(way)) != len(way) - 1:
        return False
    uses = uses_by_name(web)
    return all([used in uses.get(name, []) for name, used in zip(way, way[1:])])


def in_order(web):
    """The names of the pieces, each ahead of those that it uses."""
    check_whole(web)
    uses = uses_by_name(web)
    waiting = list(uses)
    placed = []
    while waiting:
        held = [used for name in waiting for used in uses[name]]
        free = [name for name in waiting if name not in held]
        waiting.remove(free[0])
        placed.append(free[0])
    return tuple(placed)


def reached(web, name):
    """The names that are used from a piece on, and itself, ascending."""
    found = names_behind(uses_with(web, name), name)
    found[name] = True
    return tuple(sorted(list(found)))


def unreached(web):
    """The names of the pieces that no file reaches."""
    files = file_names(web)
    uses = uses_by_name(web)
    found = {}
    for name in files:
        found[name] = True
        found.update(names_behind(uses, name))
    return tuple([name for name in uses if name not in found])
