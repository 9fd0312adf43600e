"""Ways of edges through the blocks of one function [12, 13].

The function is a tuple of a module, so its ends name only its own blocks.
"""

from clobberwalk.parts import parts_of


def edges_of(function):
    """Map the name of each block to the names of the blocks to which its end leads."""
    return {block[0]: parts_of(block[3], "block") for block in function[2]}


def blocks_without(function, barred):
    """List the blocks to which ways of edges lead from the entry that do not pass barred.

    With None for barred these are the reached blocks. They are in the order of the function.
    """
    edges = edges_of(function)
    found = []
    waiting = [function[2][0][0]]
    while len(waiting) > 0:
        name = waiting.pop()
        if name != barred and name not in found:
            found.append(name)
            waiting.extend(edges[name])
    return [block[0] for block in function[2] if block[0] in found]


def dominators_of(function):
    """Map the name of each reached block to the names of the blocks that dominate it."""
    names = blocks_without(function, None)
    found = {name: [] for name in names}
    for name in names:
        around = blocks_without(function, name)
        for other in names:
            if other not in around:
                found[other].append(name)
    return found
