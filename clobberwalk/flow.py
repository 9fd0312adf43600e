"""Ways of edges through the blocks of one function [12, 13].

The function is a tuple of a module, so its ends name only its own blocks. Blocks
are told by their indexes; a set of blocks is a mask, in which the bit 1 << b
stands for the block with the index b.
"""

from clobberwalk.errors import UnknownName
from clobberwalk.masks import indexes_in
from clobberwalk.parts import goals_of


def goals_by_index(function):
    """List for each block the indexes of the blocks to which its end leads."""
    order = {block[0]: b for b, block in enumerate(function[2])}
    return [[order[name] for name in goals_of(block[3])] for block in function[2]]


def ways_from(goals, starts, barred):
    """Tell the mask of the blocks to which ways lead from a list of blocks, these included.

    The ways do not pass the block barred; with None for it they may pass all blocks.
    """
    found = 0
    waiting = list(starts)
    while len(waiting) > 0:
        b = waiting.pop()
        if b != barred and not found >> b & 1:
            found |= 1 << b
            waiting.extend(goals[b])
    return found


def dominators_of(goals):
    """List for each block the mask of the blocks that dominate it, 0 for one that is not reached."""
    found = [0 for _ in goals]
    found[0] = 1
    waiting = [0]
    while len(waiting) > 0:
        b = waiting.pop()
        for goal in goals[b]:
            # Each further way to the goal takes out the blocks that it goes around.
            mask = found[b] if found[goal] == 0 else found[b] & found[goal]
            mask |= 1 << goal
            if mask != found[goal]:
                found[goal] = mask
                waiting.append(goal)
    return found


def reached_blocks(function):
    """List the blocks of a function that are reached, in their order."""
    blocks = function[2]
    mask = ways_from(goals_by_index(function), [0], None)
    return [block for b, block in enumerate(blocks) if mask >> b & 1]


class Graph:
    """The reached blocks of a function, and the edges between them."""

    def __init__(self, function):
        self.names = [block[0] for block in function[2]]
        self.goals = goals_by_index(function)
        self.dominators = dominators_of(self.goals)
        self.blocks = [b for b, mask in enumerate(self.dominators) if mask > 0]

    def index_of(self, name):
        """Find the index of a reached block; UnknownName(name) if there is none."""
        for b in self.blocks:
            if name == self.names[b]:
                return b
        raise UnknownName(name)

    def names_in(self, mask):
        """List the names of the blocks of a mask, in the order of the function."""
        return [self.names[b] for b in indexes_in(mask)]

    def dominates(self, b, other):
        """Tell whether every way from the entry to other passes b."""
        return self.dominators[other] >> b & 1 == 1

    def immediate(self, b):
        """Find the immediate dominator of a block, None for the entry."""
        above = self.dominators[b] ^ (1 << b)
        for other in indexes_in(above):
            if self.dominators[other] == above:
                return other
        return None

    def frontier(self, b):
        """Tell the mask of the dominance frontier of a block."""
        found = 0
        for source in self.blocks:
            if self.dominates(b, source):
                for goal in self.goals[source]:
                    if goal == b or not self.dominates(b, goal):
                        found |= 1 << goal
        return found

    def joins_of(self, starts):
        """Tell the mask of the iterated dominance frontier of some blocks."""
        found = 0
        waiting = list(starts)
        while len(waiting) > 0:
            more = self.frontier(waiting.pop()) & ~found
            found |= more
            waiting.extend(indexes_in(more))
        return found

    def sources(self):
        """List for each block the reached blocks from which edges lead to it."""
        return [[b for b in self.blocks if goal in self.goals[b]] for goal in range(len(self.goals))]

    def loop_masks(self):
        """List the tuples (head, mask of the loop), in the order of the function."""
        sources = self.sources()
        found = []
        for head in self.blocks:
            ends = [b for b in sources[head] if self.dominates(head, b)]
            if len(ends) > 0:
                # What comes to such an edge is found by going the edges backward.
                found.append((head, ways_from(sources, ends, head) | (1 << head)))
        return found
