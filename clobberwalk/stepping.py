"""The steps that keep the behaviour of a module [32]."""

from clobberwalk.asking import is_place
from clobberwalk.effecting import Effects
from clobberwalk.faulting import Faults
from clobberwalk.parts import LOADS, STORES, used_by
from clobberwalk.told import Told
from clobberwalk.versioning import Versions

# What may be taken out if its register is not used; some of it only where it cannot fault.
UNNEEDED = ("num", "none", "fun", "same", "new", "row", "get", "at")
UNNEEDED_IF_SURE = ("row", "get", "at")


class Stepping:
    """Which steps there are on one module."""

    def __init__(self, module):
        self.told = Told(module)
        self.net = self.told.net
        self.faults = Faults(self.told)
        self.effects = Effects(self.told)
        self.versions = Versions(self.effects)
        self.functions = {function[0]: function for function in module[1]}
        # What each function uses and which functions it names, also in blocks that are not reached.
        self.used = {}
        self.named = {}
        for function in module[1]:
            self._add_function(function)
        self.loaded = {}
        for f in self.functions:
            for thing in self.effects.things_in(f):
                if thing[0] in LOADS:
                    self.loaded.update(self.effects.cells_of(f, thing))

    def _add_function(self, function):
        used, named = {}, {}
        for _, _, things, end in function[2]:
            for thing in [*things, end]:
                used.update({local: True for local in used_by(thing)})
                if thing[0] == "call" or thing[0] == "fun":
                    named[thing[2]] = True
        self.used[function[0]] = used
        self.named[function[0]] = named

    def each_step(self):
        """Tell the steps one after another, in their order."""
        for f in self.functions:
            for block in self.net.blocks[f]:
                for i, thing in enumerate(block[2]):
                    for word in CONDITIONS:
                        can_be_done = CONDITIONS[word]
                        if can_be_done(self, (f, block[0], i), thing):
                            yield (word, (f, block[0], i))
        for f in self.functions:
            if self._is_idle(f):
                yield ("function", f)

    def is_step(self, value):
        """Tell whether any value is a step on the module."""
        if not isinstance(value, tuple) or len(value) != 2 or not isinstance(value[0], str):
            return False
        word, where = value
        if word == "function":
            return isinstance(where, str) and where in self.functions and self._is_idle(where)
        thing = self._instruction_at(where)
        if word not in CONDITIONS or thing is None:
            return False
        can_be_done = CONDITIONS[word]
        return can_be_done(self, where, thing)

    def take(self, step, draft):
        """Do a step on a draft of the module."""
        word, where = step
        if word == "function":
            draft.take_function(where)
            return
        thing = self._instruction_at(where)
        if word == "call":
            draft.exchange(where, ("call", thing[1], self.only_goal(where[0], thing), thing[3]))
        elif word == "num":
            draft.exchange(where, ("num", thing[1], 1 if thing[2] == thing[3] else 0))
        else:
            if word == "load":
                draft.exchange_uses(where[0], thing[1], self.stored_before(where, thing))
            draft.take_out(where)

    def _is_idle(self, f):
        """Tell whether a function is not live, and no other one names it."""
        if self.told.is_live(f):
            return False
        return not any([f in self.named[other] for other in self.functions if other != f])

    def _instruction_at(self, place):
        """Find the instruction at a place of a reached block, None if any value is no such place."""
        if is_place(place) and place[0] in self.functions:
            for block in self.net.blocks[place[0]]:
                if block[0] == place[1] and place[2] < len(block[2]):
                    return block[2][place[2]]
        return None

    def only_goal(self, f, ask):
        """Find the function that is all that the register of an ask holds, None if there is none that fits."""
        for name in self.net.fitting(len(ask[3])):
            if self.told.held(f, ask[2]) == self.net.fun_bit(name):
                return name
        return None

    def stored_before(self, place, load):
        """Find the register that the clobber of a load stores, None if it is no store that surely meets it."""
        version = self.versions.clobber(place, load)
        if version[0] != "writer":
            return None
        store = self._instruction_at(version[1])
        if store[0] not in STORES or self.versions.meets(place, load, version[1], store) != "surely":
            return None
        return store[3]


def _asks_one(stepping, place, thing):
    return thing[0] == "ask" and stepping.only_goal(place[0], thing) is not None


def _has_known_answer(stepping, place, thing):
    if thing[0] != "same":
        return False
    one, other = stepping.told.held(place[0], thing[2]), stepping.told.held(place[0], thing[3])
    return one > 0 and other > 0 and (thing[2] == thing[3] or one & other == 0)


def _loads_what_is_stored(stepping, place, thing):
    return thing[0] in LOADS and stepping.stored_before(place, thing) is not None


def _stores_for_nothing(stepping, place, thing):
    if thing[0] not in STORES or not stepping.faults.is_sure(place, thing):
        return False
    return not any([cell in stepping.loaded for cell in stepping.effects.cells_of(place[0], thing)])


def _is_not_needed(stepping, place, thing):
    if thing[0] not in UNNEEDED or thing[1] in stepping.used[place[0]]:
        return False
    return thing[0] not in UNNEEDED_IF_SURE or stepping.faults.is_sure(place, thing)


# The conditions of the steps at places, in the order of the document.
CONDITIONS = {
    "call": _asks_one, "num": _has_known_answer, "load": _loads_what_is_stored, "store": _stores_for_nothing,
    "unused": _is_not_needed,
}
