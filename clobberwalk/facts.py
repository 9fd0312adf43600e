"""What registers and cells can hold, and which functions can be called [15, 16]."""

from clobberwalk.asking import check_local, check_module, function_named, thing_with
from clobberwalk.parts import CALLS, MAKERS
from clobberwalk.told import Told


def holds(module, f, local):
    """List the things that a register can hold, ascending."""
    check_module(module)
    check_local(function_named(module, f), local)
    told = Told(module)
    return told.things_of(told.net.frames[f].homes[local])


def given_by(module, f):
    """List the things that a function can give, ascending."""
    check_module(module)
    function_named(module, f)
    told = Told(module)
    return told.things_of(told.net.frames[f].given)


def kept(module, place):
    """Map each field of a site, None for a row's elements, to the list of things that it can hold."""
    check_module(module)
    thing_with(module, place, MAKERS)
    return Told(module).kept(place)


def live(module):
    """List the functions that can be called, and main, ascending."""
    check_module(module)
    return Told(module).live()


def goals(module, place):
    """List the functions that a call or an ask can call, ascending."""
    check_module(module)
    thing = thing_with(module, place, CALLS)
    return Told(module).goals(place[0], thing)


def facts(module):
    """List all facts of a module, ascending by their repr."""
    check_module(module)
    told = Told(module)
    found = []
    for number, holder in enumerate(told.net.holders):
        if holder is not None:
            found.extend([(holder, thing) for thing in told.things_of(number)])
    return sorted(found, key=_shown)


def _shown(fact):
    return repr(fact)
