"""Questions about the blocks of a function and the edges between them [12, 13, 14]."""

from clobberwalk.asking import check_module, function_named
from clobberwalk.flow import Graph, ways_from


def reached(module, f):
    """List the names of the reached blocks, in the order of the function."""
    graph = _graph_of(module, f)
    return [graph.names[b] for b in graph.blocks]


def dominates(module, f, block, other):
    """Tell whether every way from the entry to other passes block."""
    graph = _graph_of(module, f)
    at = graph.index_of(block)
    return graph.dominates(at, graph.index_of(other))


def way_around(module, f, block, other):
    """List the blocks of a way from the entry to other that does not pass block, None if there is none."""
    graph = _graph_of(module, f)
    barred, last = graph.index_of(block), graph.index_of(other)
    ways = {} if barred == 0 else {0: [0]}
    waiting = list(ways)
    while len(waiting) > 0:
        b = waiting.pop()
        for goal in graph.goals[b]:
            if goal != barred and goal not in ways:
                ways[goal] = [*ways[b], goal]
                waiting.append(goal)
    if last not in ways:
        return None
    return [graph.names[b] for b in ways[last]]


def immediate_dominator(module, f, block):
    """Tell the block that dominates block, is not it, and is dominated by all others that do; None for the entry."""
    graph = _graph_of(module, f)
    above = graph.immediate(graph.index_of(block))
    return None if above is None else graph.names[above]


def frontier(module, f, block):
    """List the dominance frontier of a block, in the order of the function."""
    graph = _graph_of(module, f)
    return graph.names_in(graph.frontier(graph.index_of(block)))


def post_dominates(module, f, block, other):
    """Tell whether a way leads from other to an end give, and every such way passes block."""
    graph = _graph_of(module, f)
    barred, start = graph.index_of(block), graph.index_of(other)
    # Only the end give leads to no block.
    gives = 0
    for b in graph.blocks:
        if len(graph.goals[b]) == 0:
            gives |= 1 << b
    free = ways_from(graph.goals, [start], None) & gives
    return free > 0 and ways_from(graph.goals, [start], barred) & gives == 0


def loops(module, f):
    """List the tuples (head, blocks) of all loops, in the order of the function."""
    graph = _graph_of(module, f)
    return [(graph.names[head], tuple(graph.names_in(mask))) for head, mask in graph.loop_masks()]


def depth(module, f, block):
    """Count the loops that contain a block."""
    graph = _graph_of(module, f)
    b = graph.index_of(block)
    return len([head for head, mask in graph.loop_masks() if mask >> b & 1])


def is_reducible(module, f):
    """Tell whether no block can be reached from itself without back edges."""
    graph = _graph_of(module, f)
    onward = [
        [goal for goal in goals if not graph.dominates(goal, b)] for b, goals in enumerate(graph.goals)
    ]
    for b in graph.blocks:
        if ways_from(onward, onward[b], None) >> b & 1:
            return False
    return True


def _graph_of(module, f):
    check_module(module)
    return Graph(function_named(module, f))
