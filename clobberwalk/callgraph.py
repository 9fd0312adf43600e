"""Which functions call which, by the facts of a module [22, 23]."""

from clobberwalk.masks import bits_in
from clobberwalk.parts import CALLS


class CallGraph:
    """The calls in reached blocks of live functions. Sets of functions are masks of their bits."""

    def __init__(self, told):
        self.net = told.net
        self.live = told.live()
        # The goals of each call, by its place.
        self.goals = {}
        self.called = {name: 0 for name in self.net.functions}
        for name in self.live:
            for block in self.net.blocks[name]:
                for i, thing in enumerate(block[2]):
                    if thing[0] in CALLS:
                        goals = told.goals(name, thing)
                        self.goals[(name, block[0], i)] = goals
                        self.called[name] |= sum([self.net.fun_bit(goal) for goal in goals])
        self.reachable = {name: self._from(self.called[name]) for name in self.net.functions}

    def _from(self, mask):
        found = 0
        while mask > 0:
            low = mask & -mask
            found |= low
            mask = (mask | self.called[self.net.name_of(low)]) & ~found
        return found

    def names_in(self, mask):
        """List the names of the functions of a mask, ascending."""
        return [self.net.name_of(bit) for bit in bits_in(mask)]

    def group_of(self, name):
        """Tell the mask of the ring of a live function, or of the function alone if it is in none."""
        own = self.net.fun_bit(name)
        if not self.is_in_ring(name):
            return own
        others = [other for other in self.names_in(self.reachable[name]) if self.reachable[other] & own > 0]
        return sum([self.net.fun_bit(other) for other in others])

    def is_in_ring(self, name):
        """Tell whether a function can call itself."""
        return self.reachable[name] & self.net.fun_bit(name) > 0

    def is_in_or_below_ring(self, name):
        """Tell whether a function is in a ring, or can be called by a function in a ring."""
        own = self.net.fun_bit(name)
        # A function in a ring can call itself, too.
        return any([self.is_in_ring(other) and self.reachable[other] & own > 0 for other in self.live])

    def level_of(self, name):
        """Tell the level of a live function."""
        group = self.group_of(name)
        below = 0
        for member in self.names_in(group):
            below |= self.called[member]
        # Groups do not call each other in rings, so this comes to an end.
        return max([self.level_of(other) + 1 for other in self.names_in(below & ~group)], default=0)
