"""Which accesses touch the same cells, and which writes a load sees [30, 31]."""

from clobberwalk.asking import check_module, thing_with
from clobberwalk.effecting import Effects
from clobberwalk.parts import ACCESSES
from clobberwalk.told import Told
from clobberwalk.versioning import Versions


def meets(module, place, other):
    """Tell whether two accesses never, surely or perhaps meet."""
    check_module(module)
    access = thing_with(module, place, ACCESSES)
    other_access = thing_with(module, other, ACCESSES)
    return _versions_of(module).meets(place, access, other, other_access)


def writers(module, place):
    """List the stores and calls of its function that can write a cell of an access, ascending."""
    check_module(module)
    access = thing_with(module, place, ACCESSES)
    return sorted(_versions_of(module).writers(place, access))


def clobber(module, place):
    """Tell the version of its cells that an access finds."""
    check_module(module)
    access = thing_with(module, place, ACCESSES)
    return _versions_of(module).clobber(place, access)


def seen(module, place):
    """List the start and the writers that an access sees, as versions, ascending."""
    check_module(module)
    access = thing_with(module, place, ACCESSES)
    return _versions_of(module).seen(place, access)


def _versions_of(module):
    return Versions(Effects(Told(module)))
