"""Which faults can come, and where none can [20, 21]."""

from clobberwalk.asking import check_local, check_module, function_named, thing_at
from clobberwalk.faulting import Faults
from clobberwalk.told import Told

SORTS = {"fun": "function", "none": "none", "number": "number"}


def words(module, place):
    """Tell the words of the faults that can come at a place, in the order of the document."""
    check_module(module)
    thing = thing_at(module, place)
    return Faults(Told(module)).words_at(place, thing)


def is_sure(module, place):
    """Tell whether a place is sure: no run ends with a fault there."""
    check_module(module)
    thing = thing_at(module, place)
    return Faults(Told(module)).is_sure(place, thing)


def sorts(module, f, local):
    """Tell of which sorts the values of a register can be, ascending."""
    check_module(module)
    check_local(function_named(module, f), local)
    told = Told(module)
    found = {_sort_of(told.net, thing): True for thing in told.things_of(told.net.frames[f].homes[local])}
    return tuple(sorted(found))


def _sort_of(net, thing):
    if thing[0] != "site":
        return SORTS[thing[0]]
    return "row" if net.sites[thing[1]][0] == "row" else "object"
