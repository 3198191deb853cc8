"""The errors of Proseknot. Each keeps its arguments as attributes."""


class KnotError(ValueError):
    """What all errors of Proseknot are; it is never raised itself."""


class InvalidWeb(KnotError):
    """A value that was passed as a web is none."""

    def __init__(self, value):
        self.value = value


class InvalidText(KnotError):
    """A text cannot be read; at is where it goes wrong or ends too early."""

    def __init__(self, text, at):
        self.text = text
        self.at = at


class InvalidEdit(KnotError):
    """A value is no edit, or none of the text that it was to change."""

    def __init__(self, value):
        self.value = value


class InvalidNumber(KnotError):
    """There is nothing of this number."""

    def __init__(self, value):
        self.value = value


class InvalidLine(KnotError):
    """A line is no command of a desk; at is where it goes wrong."""

    def __init__(self, line, at):
        self.line = line
        self.at = at


class NoPiece(KnotError):
    """No section tells a piece of this name."""

    def __init__(self, name):
        self.name = name


class NoText(KnotError):
    """There is no text of this name."""

    def __init__(self, name):
        self.name = name


class NotWhole(KnotError):
    """A web has faults; the first one is told."""

    def __init__(self, fault):
        self.fault = fault


class Refused(KnotError):
    """An edit or a change does not go into the web."""

    def __init__(self, reason):
        self.reason = reason


class Clash(KnotError):
    """Two edits cannot be merged."""

    def __init__(self, reason):
        self.reason = reason


class NothingToUndo(KnotError):
    """There is nothing to undo, or to redo: the word tells which."""

    def __init__(self, word):
        self.word = word


class Undefined(KnotError):
    """What is asked for is not there."""

    def __init__(self, what):
        self.what = what
