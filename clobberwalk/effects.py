"""What accesses, functions and calls read, write and show [25, 26]."""

from clobberwalk.asking import check_module, function_named, thing_with
from clobberwalk.effecting import Effects
from clobberwalk.errors import InvalidThings
from clobberwalk.parts import ACCESSES, CALLS
from clobberwalk.told import Told


def cells(module, place):
    """List the cells of an access, ascending."""
    check_module(module)
    access = thing_with(module, place, ACCESSES)
    return sorted(Effects(Told(module)).cells_of(place[0], access))


def reads(module, f):
    """List the cells that a function reads, ascending."""
    return _effects_of(module, f).reads(f)


def writes(module, f):
    """List the cells that a function writes, ascending."""
    return _effects_of(module, f).writes(f)


def open_reads(module, f):
    """List the cells of outside sites that a function reads, ascending."""
    effects = _effects_of(module, f)
    return effects.open_among(f, effects.reads(f))


def open_writes(module, f):
    """List the cells of outside sites that a function writes, ascending."""
    effects = _effects_of(module, f)
    return effects.open_among(f, effects.writes(f))


def shows(module, f):
    """Tell whether a function, or one that it can call, shows integers."""
    return _effects_of(module, f).shows(f)


def is_calm(module, f):
    """Tell whether a function is live, has no open writes, and does not show."""
    effects = _effects_of(module, f)
    return effects.told.is_live(f) and not effects.shows(f) and len(effects.open_among(f, effects.writes(f))) == 0


def call_effects(module, place):
    """Tell what all goals of a call read, write and show together: two lists, ascending, and True or False."""
    check_module(module)
    call = thing_with(module, place, CALLS)
    effects = Effects(Told(module))
    goals = effects.told.goals(place[0], call)
    read = {cell: True for goal in goals for cell in effects.reads(goal)}
    written = {cell: True for goal in goals for cell in effects.writes(goal)}
    return (sorted(read), sorted(written), any([effects.shows(goal) for goal in goals]))


def reach(module, things):
    """List some things, what the cells of their sites hold, and so on, ascending."""
    check_module(module)
    effects = Effects(Told(module))
    if not isinstance(things, (list, tuple)):
        raise InvalidThings(things)
    mask = 0
    for thing in things:
        bit = effects.net.bit_of(thing)
        if bit == 0:
            raise InvalidThings(things)
        mask |= bit
    return effects.net.things_in(effects.reach_of(mask))


def _effects_of(module, f):
    check_module(module)
    function_named(module, f)
    return Effects(Told(module))
