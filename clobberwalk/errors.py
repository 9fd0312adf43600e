"""The errors of the package [4]: each keeps the very objects that it is created with."""


class InvalidModule(ValueError):
    """A value is no module; reason is what module_error tells of it."""

    def __init__(self, reason):
        self.reason = reason


class InvalidInputs(ValueError):
    """A value is no list of inputs for the function main."""

    def __init__(self, value):
        self.value = value


class InvalidNumber(ValueError):
    """A value is no integer of the range that is asked for."""

    def __init__(self, value):
        self.value = value


class InvalidThings(ValueError):
    """A value is no list of things of the module."""

    def __init__(self, value):
        self.value = value


class InvalidView(ValueError):
    """A value is no view in which the function is live."""

    def __init__(self, value):
        self.value = value


class InvalidStep(ValueError):
    """A value is no step on the module."""

    def __init__(self, value):
        self.value = value


class InvalidEdit(ValueError):
    """The value with this index is no edit, or a step that is not alone."""

    def __init__(self, index):
        self.index = index


class InvalidRow(ValueError):
    """A value is no row that a desk executes."""

    def __init__(self, value):
        self.value = value


class WrongInputs(ValueError):
    """The functions main of two modules have unlike numbers of parameters."""

    def __init__(self):
        ValueError.__init__(self, "the functions main have unlike numbers of parameters")


class ParseError(ValueError):
    """The word with this index, in the line with this index, cannot stand there."""

    def __init__(self, line, word):
        self.line = line
        self.word = word


class UnknownName(KeyError):
    """A value is no name of what is asked for."""

    def __init__(self, value):
        self.value = value


class UnknownPlace(KeyError):
    """A value is no place at which an instruction or an end stands."""

    def __init__(self, value):
        self.value = value


class WrongPlace(LookupError):
    """The instruction or end at a place is none of those that are asked for."""

    def __init__(self, place):
        self.place = place


class Broken(RuntimeError):
    """The inputs with this index show that a change alters the behaviour."""

    def __init__(self, index):
        self.index = index
