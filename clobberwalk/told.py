"""The facts of a module, to ask about them again and again [15, 16]."""

from clobberwalk.masks import bits_in
from clobberwalk.net import LIVE, Net
from clobberwalk.parts import base_of, field_of
from clobberwalk.spread import least_state


class Told:
    """The net of a module, and the state that its facts are."""

    def __init__(self, module):
        self.net = Net(module)
        self.masks = least_state(self.net, None)

    def held(self, f, local):
        """Tell the mask of the things that a register holds."""
        return self.masks[self.net.frames[f].homes[local]]

    def things_of(self, number):
        """List the things that the holder with this number holds, ascending."""
        return self.net.things_in(self.masks[number])

    def kept(self, place):
        """Map each field of a site, None for a row's elements, to the list of things that it holds, ascending."""
        return {name: self.things_of(cell) for name, cell in self.net.cells[place].items()}

    def is_live(self, f):
        """Tell whether a function is live."""
        return self.masks[LIVE] & self.net.fun_bit(f) > 0

    def live(self):
        """List the functions that are live, ascending."""
        return [name for name in self.net.functions if self.is_live(name)]

    def goals(self, f, thing):
        """List the functions that a call or an ask of a function can call, ascending."""
        if not self.is_live(f):
            return []
        if thing[0] == "call":
            return [thing[2]]
        held = self.held(f, thing[2])
        return [name for name in self.net.fitting(len(thing[3])) if held & self.net.fun_bit(name) > 0]

    def cells_of(self, f, access):
        """List the numbers of the cells of an access of a function."""
        cells = self.net.owners.get(field_of(access), {})
        return [cells[bit] for bit in bits_in(self.held(f, base_of(access))) if bit in cells]
