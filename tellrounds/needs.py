"""Needs: the least times in which a message can spread."""

from tellrounds.errors import UnknownLimit
from tellrounds.trees import callers_of, delay_between, neighbours_of

LIMITS = ("least", "most", "degree")


def key_of(tree, neighbour, vertex):
    """Return the key of a neighbour that the vertex calls."""
    return delay_between(tree, neighbour, vertex) + branch_need(tree, neighbour, vertex)


def ranked_calls(tree, vertex, away):
    """Return the list of (key, neighbour) for the calls of the vertex, in their order.

    away is the caller of the vertex. It is None for a source, which calls all
    its neighbours.
    """
    neighbours = [neighbour for neighbour in neighbours_of(tree, vertex) if neighbour != away]
    pairs = sorted([(-key_of(tree, neighbour, vertex), neighbour) for neighbour in neighbours])
    return [(-negative, neighbour) for negative, neighbour in pairs]


def end_times(calls):
    """Return the list of the times at which the branches of the calls end, if no call waits."""
    return [at + key for at, (key, neighbour) in enumerate(calls)]


def branch_need(tree, vertex, away):
    """Return the need of the branch of the vertex away from away."""
    return max(end_times(ranked_calls(tree, vertex, away)), default=0)


def need_from(tree, source):
    """Return the least time in which the message can spread from the source to all vertices."""
    return branch_need(tree, source, None)


def all_needs(tree):
    """Return the tuple of the needs from all vertices."""
    return tuple([need_from(tree, vertex) for vertex in range(tree[0])])


def call_order(tree, source, vertex):
    """Return the tuple of the neighbours that the vertex has to call, by descending keys."""
    away = callers_of(tree, source)[vertex]
    return tuple([neighbour for key, neighbour in ranked_calls(tree, vertex, away)])


def best_sources(tree):
    """Return the ascending tuple of the vertices from which the need is least."""
    needs = all_needs(tree)
    least = min(needs)
    return tuple([vertex for vertex, need in enumerate(needs) if need == least])


def select_sources(tree, **limits):
    """Return the ascending tuple of the vertices that keep the limits least, most and degree."""
    unknown = sorted([name for name in limits if name not in LIMITS])
    if unknown:
        raise UnknownLimit(unknown[0])
    selected = []
    for vertex, need in enumerate(all_needs(tree)):
        if keeps_limits(need, len(neighbours_of(tree, vertex)), limits):
            selected.append(vertex)
    return tuple(selected)


def keeps_limits(need, degree, limits):
    """Return whether a vertex with this need and this number of neighbours keeps the limits."""
    least = limits.get("least", need)
    most = limits.get("most", need)
    return least <= need <= most and limits.get("degree", degree) == degree
