"""Which cells functions touch, by the facts of a module [25, 26]."""

from clobberwalk.callgraph import CallGraph
from clobberwalk.parts import LOADS, STORES


class Effects:
    """What the functions of a module read, write and show."""

    def __init__(self, told):
        self.told = told
        self.net = told.net
        self.graph = CallGraph(told)

    def cells_of(self, f, access):
        """Map the cells of an access of a function to True."""
        return {self.net.holders[number]: True for number in self.told.cells_of(f, access)}

    def cells_by(self, f, words):
        """List the cells of the accesses with these words, of a function and of all that it can call, ascending."""
        found = {}
        for name in self.all_called(f):
            for thing in self.things_in(name):
                if thing[0] in words:
                    found.update(self.cells_of(name, thing))
        return sorted(found)

    def reads(self, f):
        """List the cells that a function reads, ascending."""
        return self.cells_by(f, LOADS)

    def writes(self, f):
        """List the cells that a function writes, ascending."""
        return self.cells_by(f, STORES)

    def shows(self, f):
        """Tell whether a function, or one that it can call, is live and has a show."""
        return any([
            self.told.is_live(name) and thing[0] == "show"
            for name in self.all_called(f) for thing in self.things_in(name)
        ])

    def open_among(self, f, cells):
        """List those of some cells that are of sites outside of a function."""
        outside = self.reach_of(self.held_by(self.parameters_of(f)))
        return [cell for cell in cells if outside & self.net.bits[("site", cell[1])] > 0]

    def parameters_of(self, f):
        """List the numbers of the parameters of a function."""
        return [self.net.frames[f].homes[local] for local in self.net.functions[f][1]]

    def held_by(self, numbers):
        """Tell the mask of what the holders with these numbers hold."""
        mask = 0
        for number in numbers:
            mask |= self.told.masks[number]
        return mask

    def reach_of(self, mask):
        """Tell the mask of some things, of what the cells of their sites hold, and so on."""
        found = 0
        while mask > 0:
            low = mask & -mask
            found |= low
            for number in self.net.cells_in(low):
                mask |= self.told.masks[number]
            mask &= ~found
        return found

    def all_called(self, f):
        """List a function and all others that it can call."""
        return self.graph.names_in(self.graph.reachable[f] | self.net.fun_bit(f))

    def things_in(self, f):
        """List the instructions of the reached blocks of a function."""
        return [thing for block in self.net.blocks[f] for thing in block[2]]
