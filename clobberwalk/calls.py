"""Who calls whom [22, 23, 24]."""

from clobberwalk.asking import check_module, function_named, is_place
from clobberwalk.callgraph import CallGraph
from clobberwalk.told import Told


def calls(module, f):
    """List the functions that a function calls, ascending."""
    graph = _graph_of(module, f)
    return graph.names_in(graph.called[f])


def callers(module, f):
    """List the functions that call a function, ascending."""
    graph = _graph_of(module, f)
    own = graph.net.fun_bit(f)
    return [name for name in graph.live if graph.called[name] & own > 0]


def can_call(module, f):
    """List the functions that a function calls, that these call, and so on, ascending."""
    graph = _graph_of(module, f)
    return graph.names_in(graph.reachable[f])


def rings(module):
    """List the tuples of names of the rings, ascending."""
    check_module(module)
    graph = CallGraph(Told(module))
    groups = {graph.group_of(name): True for name in graph.live if graph.is_in_ring(name)}
    # Each ring was found by its first name, so the list ascends.
    return [tuple(graph.names_in(group)) for group in groups]


def level(module, f):
    """Tell the level of a function, None if it is not live."""
    graph = _graph_of(module, f)
    return graph.level_of(f) if f in graph.live else None


def chain(module, f):
    """List the places of a shortest chain of calls to a function, None if it is not live."""
    graph = _graph_of(module, f)
    found = {"main": []}
    waiting = ["main"]
    while len(waiting) > 0:
        following = []
        for name in waiting:
            for place, goals in graph.goals.items():
                for goal in goals:
                    if place[0] == name and goal not in found:
                        found[goal] = [*found[name], place]
                        following.append(goal)
        waiting = following
    return found.get(f)


def is_chain(module, f, value):
    """Tell whether any value is a chain of calls to a function."""
    graph = _graph_of(module, f)
    if not isinstance(value, (list, tuple)):
        return False
    goals = ["main"]
    for place in value:
        if not is_place(place) or place not in graph.goals or place[0] not in goals:
            return False
        goals = graph.goals[place]
    return f in goals


def _graph_of(module, f):
    check_module(module)
    function_named(module, f)
    return CallGraph(Told(module))
