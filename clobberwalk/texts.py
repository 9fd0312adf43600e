"""Modules as texts [41, 42]."""

from clobberwalk.asking import check_module
from clobberwalk.errors import ParseError
from clobberwalk.forms import ENDS, SIZES
from clobberwalk.limits import Limits
from clobberwalk.parts import things_of
from clobberwalk.wording import Words, line_of


def show_module(module):
    """Make the text of a module."""
    check_module(module)
    lines = [" ".join(["kind", name, *fields]) for name, fields in module[0]]
    for name, parameters, blocks in module[1]:
        lines.append(" ".join(["function", name, *parameters]))
        for block in blocks:
            lines.append(" ".join(["block", block[0], *block[1]]))
            lines.extend([line_of(thing) for thing in things_of(block)])
    return "\n".join(lines)


def read_module(text):
    """Make the module with a text; ParseError where the text of any module differs, InvalidModule where it is none."""
    if not isinstance(text, str):
        raise ParseError(0, 0)
    outline = Outline()
    lines = text.split("\n")
    for at, line in enumerate(lines):
        words = Words(at, line)
        outline.take_line(words)
        words.finish()
    if not outline.can_end():
        raise ParseError(len(lines), 0)
    module = outline.as_module()
    check_module(module)
    return module


def show_line(thing):
    """Make the line of an instruction or an end."""
    return line_of(thing)


def read_line(text):
    """Make the instruction or end with a line."""
    if not isinstance(text, str):
        raise ParseError(0, 0)
    words = Words(0, text)
    thing = words.take_thing()
    words.finish()
    return thing


class Outline:
    """The kinds and functions of a text, as far as its lines were read."""

    def __init__(self):
        self.kinds = []
        # Of each function its name, its parameters and a list of its blocks that are finished.
        self.functions = []
        # The name, parameters and instructions of a block that is not finished, or None.
        self.begun = None

    def take_line(self, words):
        """Take the words of the next line; ParseError for the first one that cannot stand there."""
        words.need(self._can_begin(words.due()))
        if words.due() in SIZES:
            self._add_thing(words.take_thing())
            return
        word = words.take_if(True)
        if word == "kind":
            self.kinds.append((words.take_name(), words.take_names(Limits.MOST_FIELDS)))
        elif word == "function":
            self.functions.append((words.take_name(), words.take_names(Limits.MOST_PARAMETERS), []))
        else:
            self.begun = (words.take_name(), words.take_names(Limits.MOST_BLOCK_PARAMETERS), [])

    def can_end(self):
        """Tell whether no line has to follow."""
        return self.begun is None and len(self.functions) > 0 and len(self.functions[-1][2]) > 0

    def as_module(self):
        """Make the tuple of the kinds and functions."""
        functions = [(name, parameters, tuple(blocks)) for name, parameters, blocks in self.functions]
        return (tuple(self.kinds), tuple(functions))

    def _add_thing(self, thing):
        name, parameters, things = self.begun
        if thing[0] in ENDS:
            self.functions[-1][2].append((name, parameters, tuple(things), thing))
            self.begun = None
        else:
            things.append(thing)

    def _can_begin(self, word):
        """Tell whether the next line can begin with a word."""
        if self.begun is not None:
            has_room = len(self.begun[2]) < Limits.MOST_INSTRUCTIONS
            return word in ENDS or (word in SIZES and has_room)
        if word == "kind":
            return len(self.functions) == 0 and len(self.kinds) < Limits.MOST_KINDS
        if word == "function":
            return (len(self.functions) == 0 or self.can_end()) and len(self.functions) < Limits.MOST_FUNCTIONS
        if word == "block":
            return len(self.functions) > 0 and len(self.functions[-1][2]) < Limits.MOST_BLOCKS
        return False
