"""Which accesses can meet, and which writers come before them [30, 31]."""

from clobberwalk.flow import Graph
from clobberwalk.limits import Limits
from clobberwalk.parts import CALLS, STORES, base_of, field_of, index_of

START = ("start",)


class Versions:
    """The versions of the cells of the accesses of one module. An access goes with its place."""

    def __init__(self, effects):
        self.effects = effects
        self.told = effects.told
        self.net = effects.net
        self.graphs = {name: Graph(function) for name, function in self.net.functions.items()}
        # What each function writes, as it is asked for again and again.
        self.written = {name: {cell: True for cell in effects.writes(name)} for name in self.graphs}

    def meets(self, place, access, other_place, other):
        """Tell whether two accesses never, surely or perhaps meet."""
        f, g = place[0], other_place[0]
        theirs = self.told.cells_of(g, other)
        if len([number for number in self.told.cells_of(f, access) if number in theirs]) == 0:
            return "never"
        # As they have a cell in common, both are of one field, or both of elements.
        agree = True if field_of(access) is not None else self._indexes_agree(f, access, g, other)
        if agree is False:
            return "never"
        surely = agree is True and f == g and base_of(access) == base_of(other)
        return "surely" if surely else "perhaps"

    def _indexes_agree(self, f, access, g, other):
        """Tell whether two accesses of elements have the same index: True, False, or None for perhaps."""
        one, two = index_of(access), index_of(other)
        if f == g and one == two:
            return True
        number, number_too = self.net.num_of(f, one), self.net.num_of(g, two)
        if number is None or number_too is None:
            return None
        return number == number_too

    def writers(self, place, access):
        """List the places of the writers of an access, in the order of the function."""
        f = place[0]
        cells = self.effects.cells_of(f, access)
        found = []
        for block in self.net.blocks[f]:
            for i, thing in enumerate(block[2]):
                other = (f, block[0], i)
                if thing[0] in STORES and self.meets(place, access, other, thing) != "never":
                    found.append(other)
                elif thing[0] in CALLS and self._call_writes(f, thing, cells):
                    found.append(other)
        return found

    def _call_writes(self, f, call, cells):
        for goal in self.told.goals(f, call):
            if any([cell in self.written[goal] for cell in cells]):
                return True
        return False

    def _writers_by_block(self, place, access):
        """Map the index of each block with writers to the list of their indexes, ascending."""
        graph = self.graphs[place[0]]
        found = {}
        for _, name, index in self.writers(place, access):
            found.setdefault(graph.index_of(name), []).append(index)
        return found

    def clobber(self, place, access):
        """Tell the last version that begins before an access, in its block or in those that dominate it."""
        f, name, index = place
        graph = self.graphs[f]
        indexes = self._writers_by_block(place, access)
        joins = graph.joins_of(list(indexes))
        b = graph.index_of(name)
        while b is not None:
            before = [i for i in indexes.get(b, []) if i < index]
            if len(before) > 0:
                return ("writer", (f, graph.names[b], before[-1]))
            if joins >> b & 1:
                return ("join", graph.names[b])
            b = graph.immediate(b)
            # Of the blocks above all instructions come before the access.
            index = Limits.MOST_INSTRUCTIONS
        return START

    def seen(self, place, access):
        """List the start and the writers from which ways lead to an access without a later writer, ascending."""
        f, name, index = place
        graph = self.graphs[f]
        indexes = self._writers_by_block(place, access)
        sources = graph.sources()
        found = {}
        looked = {}
        waiting = [(graph.index_of(name), index)]
        while len(waiting) > 0:
            b, end = waiting.pop()
            before = [i for i in indexes.get(b, []) if i < end]
            if len(before) > 0:
                found[("writer", (f, graph.names[b], before[-1]))] = True
                continue
            if b == 0:
                found[START] = True
            for source in sources[b]:
                if source not in looked:
                    looked[source] = True
                    waiting.append((source, Limits.MOST_INSTRUCTIONS))
        return sorted(found)
