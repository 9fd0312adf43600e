"""The things and the holders of a module, by bits and numbers [15].

A set of things is a mask of their bits; the bits ascend as the things do. A
state is a list of masks: for the number of each holder the things that it holds.
"""

from clobberwalk.asking import is_place
from clobberwalk.flow import reached_blocks
from clobberwalk.masks import indexes_in
from clobberwalk.parts import MAKERS, defined_in_function

# Two numbers that stand for no holder: one holds every thing, as what needs
# nothing is made from it, the other one the functions that are live.
FULL = 0
LIVE = 1

NONE = ("none",)
NUMBER = ("number",)


class Frame:
    """Where it is told of a function what its registers hold, what it gives, and that it is live: by numbers."""

    def __init__(self, name, alive, given, homes):
        self.name = name
        self.alive = alive
        self.given = given
        self.homes = homes


class Net:
    """The things, holders, and reached blocks of a module."""

    def __init__(self, module):
        self.fields = {kind[0]: kind[1] for kind in module[0]}
        self.functions = {function[0]: function for function in module[1]}
        self.blocks = {function[0]: reached_blocks(function) for function in module[1]}
        # The new or row of each site; places ascend as sites do.
        self.sites = _sites_of(self.blocks)
        named = [("fun", name) for name in self.functions]
        self.things = [*named, NONE, NUMBER, *[("site", place) for place in self.sites]]
        self.bits = {thing: 1 << at for at, thing in enumerate(self.things)}
        self.holders = [None, None]
        self.cells = {}
        # For each field, and None for elements, the cells of all sites, by the bits of these.
        self.owners = {None: {}}
        self.frames = {name: self.new_frame(name, LIVE) for name in self.functions}
        for place, made in self.sites.items():
            self._add_site(place, made)

    def new_frame(self, name, alive):
        """Make room for what is told of a function; that it is live is told by the holder alive."""
        given = len(self.holders)
        self.holders.append(("given", name))
        homes = {}
        for local in defined_in_function(self.functions[name]):
            homes[local] = len(self.holders)
            self.holders.append(("register", name, local))
        return Frame(name, alive, given, homes)

    def all_frames(self):
        """List the frames of all functions."""
        return list(self.frames.values())

    def frame_at(self, _, name):
        """Find the frame of a function that is called at a place: here it is one for all places."""
        return self.frames[name]

    def askable(self, _, ask):
        """List the functions that the ask at a place could call, ascending."""
        return self.fitting(len(ask[3]))

    def _add_site(self, place, made):
        names = [None] if made[0] == "row" else self.fields[made[2]]
        cells = {}
        for name in names:
            cells[name] = len(self.holders)
            self.owners.setdefault(name, {})[self.bits[("site", place)]] = len(self.holders)
            self.holders.append(("element", place) if name is None else ("field", place, name))
        self.cells[place] = cells

    def empty_state(self):
        """Make the state in which no holder holds anything, and no function is live."""
        masks = [0 for _ in self.holders]
        masks[FULL] = (1 << len(self.things)) - 1
        return masks

    def things_in(self, mask):
        """List the things of a mask, ascending."""
        return [self.things[at] for at in indexes_in(mask)]

    def bit_of(self, value):
        """Find the bit of a thing, 0 for any value that is none of the module."""
        if value == NONE or value == NUMBER:
            return self.bits[value]
        if not isinstance(value, tuple) or len(value) != 2:
            return 0
        word, part = value
        if (word == "fun" and isinstance(part, str)) or (word == "site" and is_place(part)):
            return self.bits.get(value, 0)
        return 0

    def number_of(self, value):
        """Find the number of a holder, None for any value that is none of the module."""
        if not isinstance(value, tuple) or not 2 <= len(value) <= 3:
            return None
        word, part = value[0], value[1]
        if word == "given" and len(value) == 2 and isinstance(part, str):
            return self.frames[part].given if part in self.frames else None
        if word == "element" and len(value) == 2:
            return self._cell_of(part, None)
        if len(value) == 2 or not isinstance(value[2], str):
            return None
        if word == "register" and isinstance(part, str) and part in self.frames:
            return self.frames[part].homes.get(value[2])
        return self._cell_of(part, value[2]) if word == "field" else None

    def _cell_of(self, place, name):
        if not is_place(place) or place not in self.cells:
            return None
        return self.cells[place].get(name)

    def fitting(self, count):
        """List the functions with so many parameters, ascending."""
        return [name for name in self.functions if len(self.functions[name][1]) == count]

    def owners_of(self, name):
        """Tell the mask of the sites that have the field, or, for None, of all rows."""
        return sum(list(self.owners.get(name, {})))

    def num_of(self, f, local):
        """Find the integer of the num that defines a register, None if no num does."""
        for block in self.functions[f][2]:
            for thing in block[2]:
                if thing[0] == "num" and thing[1] == local:
                    return thing[2]
        return None

    def length_at(self, place):
        """Find the integer of the num that defines the length of the rows of a site, None if no num does."""
        return self.num_of(place[0], self.sites[place][2])

    def cells_in(self, mask):
        """List the numbers of the cells of the sites of a mask; other things have none."""
        found = []
        for thing in self.things_in(mask):
            if thing[0] == "site":
                found.extend(list(self.cells[thing[1]].values()))
        return found

    def all_sites(self):
        """Tell the mask of all sites."""
        return sum([self.bits[("site", place)] for place in self.sites])

    def fun_bit(self, name):
        """Tell the bit of the function with this name."""
        return self.bits[("fun", name)]

    def name_of(self, bit):
        """Tell the name of the function with this bit."""
        return self.things[bit.bit_length() - 1][1]


def _sites_of(blocks):
    found = {}
    for name in blocks:
        for block in blocks[name]:
            for i, thing in enumerate(block[2]):
                if thing[0] in MAKERS:
                    found[(name, block[0], i)] = thing
    return {place: found[place] for place in sorted(found)}
