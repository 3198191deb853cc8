"""Two hands: edits that were made beside one another, merged into one web."""

from proseknot.backing import gone_back
from proseknot.edits import growth, shifted
from proseknot.errors import Clash, InvalidEdit, NoText, Refused
from proseknot.weaving import text_names, text_of
from proseknot.webs import check_web


def shifted_act(act, paper):
    """Where an act stands when a paper is done first."""
    name, edit = act
    return (name, shifted(edit, paper, name))


def later_back(web, act):
    """What gone_back returns for an act that was made beside an earlier one, and is shifted by it."""
    name, edit = act
    try:
        return gone_back(web, name, edit)
    except Refused:
        raise Clash("refused") from None


def both_back(web, one, other):
    """The web of both acts, the papers of one and of other, and that of other behind one."""
    check_web(web)
    web_of_one, paper_of_one = gone_back(web, one[0], one[1])
    web_of_other, paper_of_other = gone_back(web, other[0], other[1])
    later_other = shifted_act(other, paper_of_one)
    later_one = shifted_act(one, paper_of_other)
    result, later_paper = later_back(web_of_one, later_other)
    if later_back(web_of_other, later_one)[0] != result:
        raise Clash("unlike")
    return result, paper_of_one, paper_of_other, later_paper


def merged(web, one, other):
    """The web of both acts."""
    return both_back(web, one, other)[0]


def do_agree(web, one, other):
    """Whether two acts can be merged."""
    try:
        both_back(web, one, other)
    except Clash:
        return False
    return True


def joined_places(places):
    """Places of edits, each (name, start, end, growth), ascending; those that overlap or meet are one."""
    found = []
    for name, start, end, more in sorted(places):
        if found and found[-1][0] == name and start <= found[-1][2]:
            last = found.pop()
            found.append((name, last[1], max(last[2], end), last[3] + more))
        else:
            found.append((name, start, end, more))
    return found


def paper_of_two(web, one, other):
    """The paper that leads all texts of the web to those of the web of both acts."""
    result, paper, beside, later = both_back(web, one, other)
    places = [(name, start, end, growth((start, end, new))) for name, start, end, new in paper]
    # Where lines grew by one act, other takes more signs there than beside it. Its papers of both times have
    # one edit for each occurrence, so they go in step, and the later one tells what is added.
    for edit, done in zip(beside, later):
        places.append(edit[:3] + (growth(done[1:]),))
    texts = {name: text_of(result, name) for name in text_names(result)}
    grown = {name: 0 for name in texts}
    told = []
    for name, start, end, more in joined_places(places):
        at = start + grown[name]
        grown[name] += more
        told.append((name, start, end, texts[name][at:end + grown[name]]))
    return tuple(told)


def states_behind(states):
    """The states to which one more act leads, each once; a state is a web and the acts that are left for it."""
    found = []
    for web, acts in states:
        for k, act in enumerate(acts):
            result, paper = later_back(web, act)
            left = tuple([shifted_act(other, paper) for j, other in enumerate(acts) if j != k])
            if (result, left) not in found:
                found.append((result, left))
    return found


def webs_of_orders(web, acts):
    """The webs to which the orders of acts lead, none if one of them leads to none."""
    states = [(web, tuple(acts))]
    try:
        for _ in acts:
            states = states_behind(states)
    except Clash:
        return []
    return [result for result, left in states]


def lots_of(rows, many):
    """All parts of so many rows, as tuples, the first rows first."""
    if many == 0:
        return [()]
    return [(row,) + lot for k, row in enumerate(rows) for lot in lots_of(rows[k + 1:], many - 1)]


def merged_all(web, acts):
    """The web of all acts."""
    check_web(web)
    for name, edit in acts:
        gone_back(web, name, edit)
    webs = webs_of_orders(web, acts)
    if len(webs) == 1:
        return webs[0]
    for one, other in lots_of(list(acts), 2):
        merged(web, one, other)
    raise Clash("unlike")


def are_merged(web, acts):
    """Whether acts that go back each by itself can be merged."""
    try:
        merged_all(web, acts)
    except Clash:
        return False
    return True


def does_go_back(web, act):
    """Whether an act goes back."""
    name, edit = act
    try:
        gone_back(web, name, edit)
    except (NoText, InvalidEdit, Refused):
        return False
    return True


def greatest_lot(web, acts):
    """The numbers of the most acts that can be merged."""
    check_web(web)
    able = [number for number, act in enumerate(acts) if does_go_back(web, act)]
    for many in range(len(able), 0, -1):
        for lot in lots_of(able, many):
            if are_merged(web, [acts[number] for number in lot]):
                return lot
    return ()
