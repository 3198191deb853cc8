"""Slots: the params in the lines and arguments of a piece."""


def slot_at(line, at, params):
    """The number of the param whose slot begins at a place of a line, None if there is none."""
    for number, param in enumerate(params):
        if line.startswith("{" + param + "}", at):
            return number
    return None


def parts_of(line, params):
    """The parts of a line from the left: its slots, and the texts between them."""
    parts = []
    start = 0
    at = line.find("{")
    while at >= 0:
        number = slot_at(line, at, params)
        if number is None:
            at = line.find("{", at + 1)
        else:
            if start < at:
                parts.append(("text", start, at))
            start = at + len(params[number]) + 2
            parts.append(("slot", at, start, number))
            at = line.find("{", start)
    if start < len(line):
        parts.append(("text", start, len(line)))
    return tuple(parts)


def slots_of(line, params):
    """The parts of a line that are slots."""
    return [part for part in parts_of(line, params) if part[0] == "slot"]


def filled(line, params, arguments):
    """The line with the arguments in place of its slots."""
    texts = []
    for part in parts_of(line, params):
        if part[0] == "slot":
            texts.append(arguments[part[3]])
        else:
            texts.append(line[part[1]:part[2]])
    return "".join(texts)
