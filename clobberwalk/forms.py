"""The forms of names, kinds, functions, blocks, instructions and ends [5, 6, 7].

Each value may be any value. What names refer to is not looked at here.
"""

from clobberwalk.limits import Limits
from clobberwalk.parts import ARGS_AT

LONGEST_NAME = 8
# An integer of a module or a run is at most this in size.
GREATEST = 10 ** 40

# How many parts each instruction and each end has, its word included. All parts
# are names (also the word itself), but for the integer of a num and the tuples of
# names at the indexes of ARGS_AT.
SIZES = {
    "num": 3, "none": 2, "fun": 3, "add": 4, "sub": 4, "mul": 4, "less": 4, "not": 3, "same": 4,
    "new": 3, "row": 3, "get": 4, "put": 4, "at": 4, "set": 4, "call": 4, "ask": 4, "show": 2,
    "go": 3, "if": 6, "give": 2,
}
ENDS = ("go", "if", "give")


def is_integer(value):
    """Tell whether value is an int that is not a bool."""
    return isinstance(value, int) and not isinstance(value, bool)


def is_number(value):
    """Tell whether value is an integer from -10 ** 40 to 10 ** 40."""
    return is_integer(value) and abs(value) <= GREATEST


def is_name(value):
    """Tell whether value is a string of 1 to 8 letters from a to z."""
    if not isinstance(value, str) or len(value) > LONGEST_NAME:
        return False
    # Each of the three is asked of the string as a whole; the empty string is not alphabetic.
    return value.isascii() and value.isalpha() and value.islower()


def is_tuple(value, least, most):
    """Tell whether value is a tuple of least to most parts."""
    return isinstance(value, tuple) and least <= len(value) <= most


def is_names(value, most):
    """Tell whether value is a tuple of at most so many names."""
    return is_tuple(value, 0, most) and all([is_name(part) for part in value])


def is_kind(value):
    """Tell whether value is a tuple (name, fields)."""
    if not is_tuple(value, 2, 2):
        return False
    name, fields = value
    return is_name(name) and is_names(fields, Limits.MOST_FIELDS) and len(set(fields)) == len(fields)


def has_function_form(value):
    """Tell whether value is a tuple (name, parameters, blocks), blocks any values."""
    if not is_tuple(value, 3, 3):
        return False
    name, parameters, blocks = value
    if not is_name(name) or not is_names(parameters, Limits.MOST_PARAMETERS):
        return False
    return is_tuple(blocks, 1, Limits.MOST_BLOCKS)


def has_block_form(value):
    """Tell whether value is a tuple (name, parameters, instructions, end), the last two of any values."""
    if not is_tuple(value, 4, 4):
        return False
    name, parameters, instructions, _ = value
    if not is_name(name) or not is_names(parameters, Limits.MOST_BLOCK_PARAMETERS):
        return False
    return is_tuple(instructions, 0, Limits.MOST_INSTRUCTIONS)


def wrong_block(blocks):
    """Find the index of the first of a function's blocks that cannot be one there, None for none.

    It has another form, the name of an earlier block, or is an entry with parameters.
    """
    names = []
    for b, block in enumerate(blocks):
        if not has_block_form(block) or block[0] in names or (b == 0 and len(block[1]) > 0):
            return b
        names.append(block[0])
    return None


def wrong_index(block, known):
    """Find the first index at which a block has no instruction, or, behind them, no end; None for none.

    The dict known collects the strings that were found to be names, so that each is looked at once.
    """
    for i, thing in enumerate(block[2]):
        if not has_thing_form(thing, known) or thing[0] in ENDS:
            return i
    end = block[3]
    return None if has_thing_form(end, known) and end[0] in ENDS else len(block[2])


def has_thing_form(value, known):
    """Tell whether value is an instruction or an end; known as in wrong_index."""
    # Only a string may be looked up: other first parts need not be hashable.
    if not isinstance(value, tuple) or len(value) == 0 or not isinstance(value[0], str):
        return False
    word = value[0]
    if word not in SIZES or len(value) != SIZES[word]:
        return False
    if word in ARGS_AT:
        return _has_args(value, ARGS_AT[word], known)
    if word == "num":
        return is_number(value[2]) and _are_names(value[:2], known)
    return _are_names(value, known)


def _has_args(value, places, known):
    names = []
    for at, part in enumerate(value):
        if at not in places:
            names.append(part)
        elif is_tuple(part, 0, Limits.MOST_BLOCK_PARAMETERS):
            names.extend(part)
        else:
            return False
    return _are_names(names, known)


def _are_names(parts, known):
    for part in parts:
        if not isinstance(part, str) or part not in known:
            if not is_name(part):
                return False
            known[part] = True
    return True
