"""The forms of names, kinds, functions, blocks, instructions and ends [5, 6, 7].

Each value may be any value. What names refer to is not looked at here.
"""

from clobberwalk.limits import Limits

LONGEST_NAME = 8

# The sorts of the parts that stand behind the word: "defined" and "used" are
# single registers, "args" is a tuple of used ones, "number" an integer, the
# others are names of what they say.
INSTRUCTIONS = {
    "num": ("defined", "number"),
    "none": ("defined",),
    "fun": ("defined", "function"),
    "add": ("defined", "used", "used"),
    "sub": ("defined", "used", "used"),
    "mul": ("defined", "used", "used"),
    "less": ("defined", "used", "used"),
    "not": ("defined", "used"),
    "same": ("defined", "used", "used"),
    "new": ("defined", "kind"),
    "row": ("defined", "used"),
    "get": ("defined", "used", "field"),
    "put": ("used", "field", "used"),
    "at": ("defined", "used", "used"),
    "set": ("used", "used", "used"),
    "call": ("defined", "function", "args"),
    "ask": ("defined", "used", "args"),
    "show": ("used",),
}
ENDS = {
    "go": ("block", "args"),
    "if": ("used", "block", "args", "block", "args"),
    "give": ("used",),
}


def is_integer(value):
    """Tell whether value is an int that is not a bool."""
    return isinstance(value, int) and not isinstance(value, bool)


def is_number(value):
    """Tell whether value is an integer from -10 ** 40 to 10 ** 40."""
    return is_integer(value) and abs(value) <= 10 ** 40


def is_name(value):
    """Tell whether value is a string of 1 to 8 letters from a to z."""
    if not isinstance(value, str) or not 1 <= len(value) <= LONGEST_NAME:
        return False
    return all(["a" <= sign <= "z" for sign in value])


def is_tuple(value, least, most):
    """Tell whether value is a tuple of least to most parts."""
    return isinstance(value, tuple) and least <= len(value) <= most


def is_names(value, most):
    """Tell whether value is a tuple of at most so many names."""
    return is_tuple(value, 0, most) and all([is_name(part) for part in value])


def is_kind(value):
    """Tell whether value is a tuple (name, fields)."""
    if not is_tuple(value, 2, 2):
        return False
    name, fields = value
    return is_name(name) and is_names(fields, Limits.MOST_FIELDS) and len(set(fields)) == len(fields)


def has_function_form(value):
    """Tell whether value is a tuple (name, parameters, blocks), blocks any values."""
    if not is_tuple(value, 3, 3):
        return False
    name, parameters, blocks = value
    if not is_name(name) or not is_names(parameters, Limits.MOST_PARAMETERS):
        return False
    return is_tuple(blocks, 1, Limits.MOST_BLOCKS)


def has_block_form(value):
    """Tell whether value is a tuple (name, parameters, instructions, end), the last two of any values."""
    if not is_tuple(value, 4, 4):
        return False
    name, parameters, instructions, _ = value
    if not is_name(name) or not is_names(parameters, Limits.MOST_BLOCK_PARAMETERS):
        return False
    return is_tuple(instructions, 0, Limits.MOST_INSTRUCTIONS)


def wrong_block(blocks):
    """Find the index of the first of a function's blocks that cannot be one there, None for none.

    It has another form, the name of an earlier block, or is an entry with parameters.
    """
    names = []
    for b, block in enumerate(blocks):
        if not has_block_form(block) or block[0] in names or (b == 0 and len(block[1]) > 0):
            return b
        names.append(block[0])
    return None


def is_instruction(value):
    """Tell whether value has the form of an instruction."""
    word = _first_word(value)
    return word in INSTRUCTIONS and _has_sorts(value, INSTRUCTIONS[word])


def is_end(value):
    """Tell whether value has the form of an end."""
    word = _first_word(value)
    return word in ENDS and _has_sorts(value, ENDS[word])


def wrong_index(block):
    """Find the first index at which a block has no instruction, or, behind them, no end; None for none."""
    for i, thing in enumerate(block[2]):
        if not is_instruction(thing):
            return i
    return None if is_end(block[3]) else len(block[2])


def _first_word(value):
    # Only a string may be looked up: other first parts need not be hashable.
    if isinstance(value, tuple) and len(value) > 0 and isinstance(value[0], str):
        return value[0]
    return ""


def _has_sorts(value, sorts):
    if len(value) != len(sorts) + 1:
        return False
    return all([_is_of_sort(part, sort) for part, sort in zip(value[1:], sorts)])


def _is_of_sort(part, sort):
    if sort == "number":
        return is_number(part)
    if sort == "args":
        return is_names(part, Limits.MOST_BLOCK_PARAMETERS)
    return is_name(part)
