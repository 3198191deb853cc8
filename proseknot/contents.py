"""What an edit of a text may change in a web: contents, and the lines of runs.

A content is (section, number, argument, start): it begins at start in the
argument of this number of a code line, or in its plain line if argument is
None. A run is (section, kind, first): its lines are neighbours, this one the
first.
"""

from proseknot.slots import parts_of, slots_of
from proseknot.webtext import placed_arguments, placed_lines


def params_in(web, section):
    """The params whose slots may stand in a section."""
    head = web[section][1]
    return () if head is None else head[1]


def is_in_run(web, section, kind, number):
    """Whether a line is one of a run."""
    if kind != "code":
        return kind == "prose"
    line = web[section][2][number]
    return line[0] == "plain" and slots_of(line[1], params_in(web, section)) == []


def runs_of(web):
    """A dict, by the places of their line feeds in the web's text, of the lines of runs.

    Each is (run, number of the line in it, length of the line).
    """
    found = {}
    run = None
    for at, (section, kind, number, told) in placed_lines(web):
        if not is_in_run(web, section, kind, number):
            run = None
        else:
            if run is None:
                run = (section, kind, number)
            found[at + len(told)] = (run, number - run[2], len(told) - 1)
    return found


def lines_told(at, line):
    """What a code line at a place tells that may have contents: each (argument, its place, its signs)."""
    if line[0] == "plain":
        return [(None, at + 1, line[1])]
    return [(number, start, signs) for number, (start, signs) in enumerate(placed_arguments(at, line))]


def contents_of(web):
    """A dict of the contents of a web, by the places of their first signs in its text."""
    found = {}
    for at, (section, kind, number, told) in placed_lines(web):
        if kind == "code" and not is_in_run(web, section, kind, number):
            params = params_in(web, section)
            for argument, start, signs in lines_told(at, web[section][2][number]):
                for part in parts_of(signs, params):
                    if part[0] == "text":
                        found[start + part[1]] = (section, number, argument, part[1])
    return found
