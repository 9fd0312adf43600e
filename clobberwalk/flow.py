"""Ways of edges through the blocks of one function [12, 13].

The function is a tuple of a module, so its ends name only its own blocks. Blocks
are told by their indexes; a set of blocks is a mask, in which the bit 1 << b
stands for the block with the index b.
"""

from clobberwalk.parts import goals_of


def goals_by_index(function):
    """List for each block the indexes of the blocks to which its end leads."""
    order = {block[0]: b for b, block in enumerate(function[2])}
    return [[order[name] for name in goals_of(block[3])] for block in function[2]]


def ways_from(goals, start, barred):
    """Tell the mask of the blocks to which ways lead from start that do not pass barred, start included.

    With None for barred nothing is barred.
    """
    found = 0
    waiting = [start]
    while len(waiting) > 0:
        b = waiting.pop()
        if b != barred and not found >> b & 1:
            found |= 1 << b
            waiting.extend(goals[b])
    return found


def indexes_in(mask):
    """List the indexes of the bits of a mask, ascending."""
    found = []
    while mask > 0:
        low = mask & -mask
        found.append(low.bit_length() - 1)
        mask ^= low
    return found


def dominators_of(goals):
    """List for each block the mask of the blocks that dominate it, 0 for one that is not reached."""
    found = [0 for _ in goals]
    found[0] = 1
    waiting = [0]
    while len(waiting) > 0:
        b = waiting.pop()
        for goal in goals[b]:
            # Each further way to the goal takes out the blocks that it goes around.
            mask = found[b] if found[goal] == 0 else found[b] & found[goal]
            mask |= 1 << goal
            if mask != found[goal]:
                found[goal] = mask
                waiting.append(goal)
    return found
