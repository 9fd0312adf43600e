"""Which faults can come at the places of a module, by its facts [20, 21]."""

from clobberwalk.callgraph import CallGraph
from clobberwalk.flow import Graph
from clobberwalk.limits import Limits
from clobberwalk.net import NUMBER
from clobberwalk.parts import CALLS, base_of, field_of, index_of, used_by

# Where the registers stand that have to be integers.
INTEGERS_AT = {
    "add": (2, 3), "sub": (2, 3), "mul": (2, 3), "less": (2, 3), "not": (2,), "row": (2,), "show": (1,), "if": (1,),
    "at": (3,), "set": (2,),
}
FIELD_WORDS = ("get", "put")
ELEMENT_WORDS = ("at", "set")


class Faults:
    """The words of the faults of one module."""

    def __init__(self, told):
        self.told = told
        self.net = told.net

    def words_at(self, place, thing):
        """Tell the words of the faults that can come at a place, in the order of the document."""
        f = place[0]
        if not self.told.is_live(f) or 0 in [self.told.held(f, local) for local in used_by(thing)]:
            return ()
        checks = (
            ("number", self._can_lack_integer(f, thing)),
            ("great", self._can_be_great(f, thing)),
            ("length", self._can_have_wrong_length(f, thing)),
            ("object", thing[0] in FIELD_WORDS and self._can_lack_cell(f, thing)),
            ("row", thing[0] in ELEMENT_WORDS and self._can_lack_cell(f, thing)),
            ("index", thing[0] in ELEMENT_WORDS and self._can_be_outside(f, thing)),
            ("function", self._can_lack_function(f, thing)),
            ("deep", self._can_be_deep(f, thing)),
        )
        return tuple([word for word, can_come in checks if can_come])

    def is_sure(self, place, thing):
        """Tell whether no run ends with a fault at a place, by its words and the accesses before it."""
        words = self.words_at(place, thing)
        if words == ():
            return True
        if words == ("object",):
            return self._comes_behind(place, thing, FIELD_WORDS) and self._fits_all_objects(place[0], thing)
        return words == ("row",) and self._comes_behind(place, thing, ELEMENT_WORDS)

    def _can_hold_number(self, f, local):
        return self.told.held(f, local) & self.net.bits[NUMBER] > 0

    def _can_lack_integer(self, f, thing):
        places = INTEGERS_AT.get(thing[0], ())
        return any([self.told.held(f, thing[at]) & ~self.net.bits[NUMBER] > 0 for at in places])

    def _can_be_great(self, f, thing):
        if thing[0] not in ("add", "sub", "mul"):
            return False
        return self._can_hold_number(f, thing[2]) and self._can_hold_number(f, thing[3])

    def _can_have_wrong_length(self, f, thing):
        if thing[0] != "row" or not self._can_hold_number(f, thing[2]):
            return False
        length = self.net.num_of(f, thing[2])
        return length is None or not 0 <= length <= Limits.MOST_ELEMENTS

    def _can_lack_cell(self, f, access):
        return self.told.held(f, base_of(access)) & ~self.net.owners_of(field_of(access)) > 0

    def _can_be_outside(self, f, access):
        rows = self.told.held(f, base_of(access)) & self.net.owners_of(None)
        local = index_of(access)
        if rows == 0 or not self._can_hold_number(f, local):
            return False
        index = self.net.num_of(f, local)
        lengths = [self.net.length_at(thing[1]) for thing in self.net.things_in(rows)]
        if index is None or None in lengths:
            return True
        return not 0 <= index < min(lengths)

    def _can_lack_function(self, f, thing):
        if thing[0] != "ask":
            return False
        fitting = sum([self.net.fun_bit(name) for name in self.net.fitting(len(thing[3]))])
        return self.told.held(f, thing[2]) & ~fitting > 0

    def _can_be_deep(self, f, thing):
        if thing[0] not in CALLS or len(self.told.goals(f, thing)) == 0:
            return False
        return CallGraph(self.told).is_in_or_below_ring(f)

    def _comes_behind(self, place, access, words):
        """Tell whether an access with one of the words and the same base register dominates an access."""
        f, name, index = place
        graph = Graph(self.net.functions[f])
        b = graph.index_of(name)
        for block in self.net.blocks[f]:
            if graph.dominates(graph.index_of(block[0]), b):
                before = block[2][:index] if block[0] == name else block[2]
                if any([other[0] in words and base_of(other) == base_of(access) for other in before]):
                    return True
        return False

    def _fits_all_objects(self, f, access):
        held = self.net.things_in(self.told.held(f, base_of(access)))
        made = [self.net.sites[thing[1]] for thing in held if thing[0] == "site"]
        return all([thing[0] == "row" or field_of(access) in self.net.fields[thing[2]] for thing in made])
