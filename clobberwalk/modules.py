"""Whether a value is a module, and if not, why [5, 6, 7]."""

from clobberwalk.cover import first_uncovered
from clobberwalk.forms import has_function_form, is_kind, is_tuple, wrong_block, wrong_index
from clobberwalk.limits import Limits
from clobberwalk.parts import defined_in_function, links_of

# Where an instruction names a part of the module, and of which sort this is.
NAMED_AT = {
    "fun": ("function", 2), "new": ("kind", 2), "get": ("field", 3), "put": ("field", 2), "call": ("function", 2),
}


def module_error(value):
    """Tell the first reason why any value is no module; None for a module."""
    if not _has_module_form(value):
        return ("form",)
    kinds, functions = value
    # Each search may rely on what those before it did not find.
    return (
        _kind_error(kinds)
        or _function_error(functions)
        or _block_error(functions)
        or _instruction_error(functions)
        or _main_error(functions)
        or _size_error(functions)
        or _name_error(kinds, functions)
        or _twice_error(functions)
        or _use_error(functions)
    )


def _has_module_form(value):
    if not is_tuple(value, 2, 2):
        return False
    kinds, functions = value
    return is_tuple(kinds, 0, Limits.MOST_KINDS) and is_tuple(functions, 1, Limits.MOST_FUNCTIONS)


def _kind_error(kinds):
    for k, kind in enumerate(kinds):
        if not is_kind(kind) or not _is_ascending(kinds, k):
            return ("kind", k)
    return None


def _function_error(functions):
    for f, function in enumerate(functions):
        if not has_function_form(function) or not _is_ascending(functions, f):
            return ("function", f)
    return None


def _is_ascending(things, at):
    return at == 0 or things[at - 1][0] < things[at][0]


def _block_error(functions):
    for f, function in enumerate(functions):
        b = wrong_block(function[2])
        if b is not None:
            return ("block", f, b)
    return None


def _instruction_error(functions):
    known = {}
    for f, function in enumerate(functions):
        for b, block in enumerate(function[2]):
            i = wrong_index(block, known)
            if i is not None:
                return ("instruction", f, b, i)
    return None


def _main_error(functions):
    if "main" in [function[0] for function in functions]:
        return None
    return ("main",)


def _size_error(functions):
    size = sum([len(block[2]) + 1 for function in functions for block in function[2]])
    return ("size",) if size > Limits.MOST_PLACES else None


def _name_error(kinds, functions):
    # Functions and blocks have their numbers of parameters behind their names.
    known = {
        "kind": {kind[0]: True for kind in kinds},
        "field": {field: True for kind in kinds for field in kind[1]},
        "function": {function[0]: len(function[1]) for function in functions},
    }
    for f, function in enumerate(functions):
        # No end leads to the entry, so it is left out.
        rooms = {block[0]: len(block[1]) for block in function[2][1:]}
        for b, block in enumerate(function[2]):
            i = _misnamed_index(block, known, rooms)
            if i is not None:
                return ("name", f, b, i)
    return None


def _misnamed_index(block, known, rooms):
    for i, thing in enumerate(block[2]):
        if thing[0] in NAMED_AT:
            sort, at = NAMED_AT[thing[0]]
            if thing[at] not in known[sort]:
                return i
            if thing[0] == "call" and len(thing[3]) != known[sort][thing[at]]:
                return i
    for name, args in links_of(block[3]):
        if name not in rooms or len(args) != rooms[name]:
            return len(block[2])
    return None


def _twice_error(functions):
    for f, function in enumerate(functions):
        found = defined_in_function(function)
        if len(set(found)) < len(found):
            return ("twice", f, _first_repeated(found))
    return None


def _first_repeated(names):
    for at, name in enumerate(names):
        if name in names[:at]:
            return name
    return None


def _use_error(functions):
    for f, function in enumerate(functions):
        found = first_uncovered(function)
        if found is not None:
            return ("use", f, *found)
    return None
