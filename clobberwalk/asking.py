"""The arguments that many functions have in common, and the errors that they raise [4]."""

from clobberwalk.errors import InvalidModule, UnknownName, UnknownPlace, WrongPlace
from clobberwalk.flow import reached_blocks
from clobberwalk.forms import is_integer
from clobberwalk.modules import module_error
from clobberwalk.parts import defined_in_function


def check_module(module):
    """Raise InvalidModule for what is no module."""
    reason = module_error(module)
    if reason is not None:
        raise InvalidModule(reason)


def function_named(module, f):
    """Find the function with this name; UnknownName(f) if there is none."""
    for function in module[1]:
        if f == function[0]:
            return function
    raise UnknownName(f)


def check_local(function, local):
    """Raise UnknownName(local) for what is no register of the function."""
    if local not in defined_in_function(function):
        raise UnknownName(local)


def is_place(value):
    """Tell whether value has the form of a place: two strings and an integer from 0 on."""
    if not isinstance(value, tuple) or len(value) != 3:
        return False
    f, name, index = value
    return isinstance(f, str) and isinstance(name, str) and is_integer(index) and index >= 0


def thing_at(module, place):
    """Find the instruction or end at a place of a reached block; UnknownPlace(place) if there is none."""
    if is_place(place):
        f, name, index = place
        for function in module[1]:
            if function[0] == f:
                for block in reached_blocks(function):
                    if block[0] == name and index <= len(block[2]):
                        return block[2][index] if index < len(block[2]) else block[3]
    raise UnknownPlace(place)


def thing_with(module, place, words):
    """Find the instruction at a place; WrongPlace(place) if its word is none of these words."""
    thing = thing_at(module, place)
    if thing[0] not in words:
        raise WrongPlace(place)
    return thing
