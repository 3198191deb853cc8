"""Reading the sections of a web's text, from its first sign to its last one."""

from proseknot.basics import MOST_ARGUMENTS, MOST_INDENT, MOST_PARAMS, WORD_LENGTH
from proseknot.basics import is_argument_sign, is_letter, is_line_sign
from proseknot.errors import InvalidText


class Reader:
    """A text and the place up to which it is read.

    A sign is passed only if some text that can be read goes on with it. So
    the place is always right for the error: that of the first sign that is
    wrong, or the text's length where it ends too early.
    """

    def __init__(self, text):
        self.text = text
        self.at = 0
        self.heads = []

    def next_sign(self):
        """The sign at the place, "" behind the last one."""
        return self.text[self.at:self.at + 1]

    def passed(self, sign):
        """Passes this sign if it is the next one, and tells whether it was."""
        if self.next_sign() != sign:
            return False
        self.at += 1
        return True

    def take(self, sign):
        """Passes this sign, which has to be the next one."""
        if not self.passed(sign):
            raise InvalidText(self.text, self.at)

    def read_line(self):
        """A line; its line feed is passed, too."""
        start = self.at
        while is_line_sign(self.next_sign()):
            self.at += 1
        line = self.text[start:self.at]
        self.take("\n")
        return line

    def read_word(self):
        """A word; a letter too many is left to whoever reads on."""
        start = self.at
        while self.at - start < WORD_LENGTH and is_letter(self.next_sign()):
            self.at += 1
        if self.at == start:
            raise InvalidText(self.text, self.at)
        return self.text[start:self.at]

    def read_param(self, earlier):
        """A word that is none of the earlier params."""
        word = self.read_word()
        if word in earlier:
            # A shorter word may grow into another one, but a full one is wrong with its last letter.
            if len(word) == WORD_LENGTH:
                self.at -= 1
            raise InvalidText(self.text, self.at)
        return word

    def read_params(self):
        """The params up to a closing parenthesis, which is passed, too."""
        params = []
        if self.next_sign() != ")":
            params.append(self.read_param(params))
        while len(params) < MOST_PARAMS and self.passed(","):
            params.append(self.read_param(params))
        self.take(")")
        return tuple(params)

    def read_argument(self):
        """An argument: it is not empty and has no blank at an end."""
        start = self.at
        if self.next_sign() != " ":
            while is_argument_sign(self.next_sign()):
                self.at += 1
        argument = self.text[start:self.at]
        if argument == "" or argument[-1] == " ":
            raise InvalidText(self.text, self.at)
        return argument

    def read_arguments(self):
        """The arguments up to a closing parenthesis, which is passed, too."""
        arguments = []
        if self.next_sign() != ")":
            arguments.append(self.read_argument())
        while len(arguments) < MOST_ARGUMENTS and self.passed(","):
            arguments.append(self.read_argument())
        self.take(")")
        return tuple(arguments)

    def read_head(self):
        """A head, None if there is none here; where each one stands is kept in heads."""
        start = self.at
        is_file = self.passed("*")
        if not is_file and not self.passed("="):
            return None
        name = self.read_word()
        self.take("(")
        params = ()
        if is_file:
            self.take(")")
        else:
            params = self.read_params()
        self.take("\n")
        self.heads.append((start, (name, params, is_file)))
        return (name, params, is_file)

    def read_use(self):
        """A use, of which the first sign is passed already."""
        indent = 0
        while indent < MOST_INDENT and self.passed(" "):
            indent += 1
        name = self.read_word()
        self.take("(")
        arguments = self.read_arguments()
        self.take("\n")
        return ("use", indent, name, arguments)

    def read_code(self):
        """The code lines from here on."""
        code = []
        while self.next_sign() in ("|", ">"):
            if self.passed("|"):
                code.append(("plain", self.read_line()))
            else:
                self.take(">")
                code.append(self.read_use())
        return tuple(code)

    def read_section(self):
        """A section, from its first line on."""
        self.take("@")
        self.take("\n")
        prose = []
        while self.passed("."):
            prose.append(self.read_line())
        head = self.read_head()
        code = ()
        if head is not None:
            code = self.read_code()
        return (tuple(prose), head, code)

    def read_sections(self):
        """All sections, heads of one name perhaps unlike."""
        sections = []
        while self.at < len(self.text):
            sections.append(self.read_section())
        return tuple(sections)

    def read_include(self):
        """The word of an include, of which the first sign is passed already."""
        word = self.read_word()
        self.take("\n")
        return word

    def read_shelf_text(self):
        """The sections of a text of a shelf, heads of one name perhaps unlike, and its includes.

        Each is (start, end, section, word), the one of the latter two that it is not being None.
        """
        parts = []
        while self.at < len(self.text):
            start = self.at
            section = word = None
            if self.passed("<"):
                word = self.read_include()
            else:
                section = self.read_section()
            parts.append((start, self.at, section, word))
        return parts

    def check_heads(self):
        """Raises InvalidText at the first head unlike an earlier one of its name."""
        earlier = {}
        for at, head in self.heads:
            if earlier.setdefault(head[0], head) != head:
                raise InvalidText(self.text, at)
