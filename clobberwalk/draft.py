"""A module while it is changed: what comes of a change need not be a module before its end [32, 35]."""

from clobberwalk.asking import is_place
from clobberwalk.parts import MAKERS, things_of, with_other_use


class Body:
    """A block while it is changed; births tells of each instruction where it came from, None if it is new."""

    def __init__(self, block, births):
        self.name = block[0]
        self.parameters = block[1]
        self.things = list(block[2])
        self.births = births
        self.end = block[3]

    def as_block(self):
        """Make the block."""
        return (self.name, self.parameters, tuple(self.things), self.end)


class Draft:
    """The kinds and functions of a module, to be changed.

    The dict births tells where the news and rows of the module came from, by their places. What is changed has
    to be there.
    """

    def __init__(self, module, births):
        self.kinds = {kind[0]: kind for kind in module[0]}
        self.parameters = {function[0]: function[1] for function in module[1]}
        # Of each function the bodies of its blocks, by their names, in their order.
        self.bodies = {}
        for f, _, blocks in module[1]:
            self.bodies[f] = {}
            for block in blocks:
                own = [births.get((f, block[0], i)) for i in range(len(block[2]))]
                self.bodies[f][block[0]] = Body(block, own)

    def as_module(self):
        """Make the module; kinds and functions stand in ascending order of their names."""
        functions = [
            (name, self.parameters[name], tuple([body.as_block() for body in self.bodies[name].values()]))
            for name in sorted(self.bodies)
        ]
        return (tuple([self.kinds[name] for name in sorted(self.kinds)]), tuple(functions))

    def all_births(self, number):
        """Map the places of all news and rows to their births; those that are new are born in the change number."""
        found = {}
        for f, bodies in self.bodies.items():
            for name, body in bodies.items():
                for i, thing in enumerate(body.things):
                    if thing[0] in MAKERS:
                        place = (f, name, i)
                        birth = body.births[i]
                        found[place] = (number, place) if birth is None else birth
        return found

    def has_function(self, f):
        """Tell whether any value is the name of a function."""
        return isinstance(f, str) and f in self.bodies

    def has_block(self, f, name):
        """Tell whether any value is the name of a block of a function."""
        return isinstance(name, str) and name in self.bodies[f]

    def has_kind(self, k):
        """Tell whether any value is the name of a kind."""
        return isinstance(k, str) and k in self.kinds

    def thing_at(self, place):
        """Find the instruction or end at a place; None if any value is no place here."""
        if not is_place(place) or place[0] not in self.bodies or place[1] not in self.bodies[place[0]]:
            return None
        things = things_of(self.bodies[place[0]][place[1]].as_block())
        return things[place[2]] if place[2] < len(things) else None

    def put_in(self, place, thing):
        """Put an instruction in before a place."""
        f, name, index = place
        body = self.bodies[f][name]
        body.things.insert(index, thing)
        body.births.insert(index, None)

    def take_out(self, place):
        """Take the instruction at a place out."""
        f, name, index = place
        body = self.bodies[f][name]
        del body.things[index]
        del body.births[index]

    def exchange(self, place, thing):
        """Make the instruction or end at a place another one, which is new."""
        f, name, index = place
        body = self.bodies[f][name]
        if index == len(body.things):
            body.end = thing
        else:
            body.things[index] = thing
            body.births[index] = None

    def exchange_uses(self, f, local, other):
        """Let a function use another register wherever it uses a register; nothing becomes new by this."""
        for body in self.bodies[f].values():
            body.things = [with_other_use(thing, local, other) for thing in body.things]
            body.end = with_other_use(body.end, local, other)

    def put_block(self, f, block):
        """Put a new block into a function: in the place of the one with its name, or behind all others."""
        self.bodies[f][block[0]] = Body(block, [None] * len(block[2]))

    def take_block(self, f, name):
        """Take a block out of a function."""
        del self.bodies[f][name]

    def put_function(self, function):
        """Put a new function in, in the place of the one with its name if there is one."""
        name, parameters, blocks = function
        self.parameters[name] = parameters
        self.bodies[name] = {}
        for block in blocks:
            self.put_block(name, block)

    def take_function(self, f):
        """Take a function out."""
        del self.bodies[f]
        del self.parameters[f]

    def put_kind(self, kind):
        """Put a kind in, in the place of the one with its name if there is one."""
        self.kinds[kind[0]] = kind

    def take_kind(self, k):
        """Take a kind out."""
        del self.kinds[k]
