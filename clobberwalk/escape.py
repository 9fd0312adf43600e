"""Which sites outlive the calls in which they are made [27, 28]."""

from clobberwalk.asking import check_module, function_named, is_place, thing_with
from clobberwalk.effecting import Effects
from clobberwalk.parts import MAKERS
from clobberwalk.told import Told


def leaves(module, place):
    """Tell whether a site is in the reach of what its function gives or its parameters hold."""
    effects = _effects_at(module, place)
    return _leaving_mask(effects, place[0]) & effects.net.bits[("site", place)] > 0


def leaving(module, f):
    """List the sites of a function that leave it, ascending."""
    effects = _effects_of(module, f)
    return _sites_among(effects, f, _leaving_mask(effects, f))


def staying(module, f):
    """List the sites of a function that stay, ascending."""
    effects = _effects_of(module, f)
    return _sites_among(effects, f, ~_leaving_mask(effects, f))


def why_leaves(module, place):
    """List the holders of a path of a site, None if the site stays."""
    effects = _effects_at(module, place)
    net, masks = effects.net, effects.told.masks
    ways = {number: [number] for number in _first_holders(effects, place[0])}
    waiting = list(ways)
    while len(waiting) > 0:
        number = waiting.pop()
        if masks[number] & net.bits[("site", place)] > 0:
            return [net.holders[at] for at in ways[number]]
        for cell in net.cells_in(masks[number]):
            if cell not in ways:
                ways[cell] = [*ways[number], cell]
                waiting.append(cell)
    return None


def is_path(module, place, value):
    """Tell whether any value is a path of a site."""
    effects = _effects_at(module, place)
    if not isinstance(value, (list, tuple)):
        return False
    following = _first_holders(effects, place[0])
    held = 0
    for holder in value:
        number = effects.net.number_of(holder)
        if number not in following:
            return False
        held = effects.told.masks[number]
        following = effects.net.cells_in(held)
    return held & effects.net.bits[("site", place)] > 0


def shows_staying(module, place, value):
    """Tell whether any value is a list of sites that shows that a site stays."""
    effects = _effects_at(module, place)
    net = effects.net
    if not isinstance(value, (list, tuple)):
        return False
    listed = 0
    for site in value:
        if not is_place(site) or site not in net.sites:
            return False
        listed |= net.bits[("site", site)]
    needed = effects.held_by([*_first_holders(effects, place[0]), *net.cells_in(listed)]) & net.all_sites()
    return listed & net.bits[("site", place)] == 0 and needed & ~listed == 0


def _effects_at(module, place):
    check_module(module)
    thing_with(module, place, MAKERS)
    return Effects(Told(module))


def _effects_of(module, f):
    check_module(module)
    function_named(module, f)
    return Effects(Told(module))


def _first_holders(effects, f):
    """List the numbers of the holders by which a site can leave a function: what it gives, and its parameters."""
    return [effects.net.frames[f].given, *effects.parameters_of(f)]


def _leaving_mask(effects, f):
    return effects.reach_of(effects.held_by(_first_holders(effects, f)))


def _sites_among(effects, f, mask):
    net = effects.net
    return [place for place in net.sites if place[0] == f and mask & net.bits[("site", place)] > 0]
