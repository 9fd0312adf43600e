"""What registers and cells can hold by the places of calls [29]."""

from clobberwalk.asking import check_local, check_module, function_named, is_place, thing_with
from clobberwalk.errors import InvalidView
from clobberwalk.parts import CALLS, MAKERS
from clobberwalk.split import Split


def views(module, f):
    """List the views in which a function is live: None first, then ascending."""
    check_module(module)
    function_named(module, f)
    return Split(module).views_of(f)


def holds_in(module, f, local, view):
    """List the things that a register can hold in a view, ascending."""
    check_module(module)
    check_local(function_named(module, f), local)
    split = Split(module)
    return split.things_of(_frame_in(split, f, view).homes[local])


def given_in(module, f, view):
    """List the things that a function can give in a view, ascending."""
    check_module(module)
    function_named(module, f)
    split = Split(module)
    return split.things_of(_frame_in(split, f, view).given)


def kept_split(module, place):
    """Map each field of a site, None for a row's elements, to the list of things that it can hold by split facts."""
    check_module(module)
    thing_with(module, place, MAKERS)
    return Split(module).kept(place)


def goals_split(module, place):
    """List the functions that a call or an ask can call by split facts, of all views together, ascending."""
    check_module(module)
    thing = thing_with(module, place, CALLS)
    return Split(module).goals(place[0], thing)


def _frame_in(split, f, view):
    if (view is None or is_place(view)) and view in split.views_of(f):
        return split.net.viewed[(f, view)]
    raise InvalidView(view)
