"""Trees: tuples (count, edges) with edges (one, other, delay)."""

from tellrounds.bounds import DELAY, VERTICES
from tellrounds.kinds import is_between, is_tuple_of


def find_fault(value):
    """Return None if the value is a tree, otherwise (path, reason) of its first fault."""
    if not is_tuple_of(value, 2):
        return (), "tree"
    count, edges = value
    if not is_between(count, 1, VERTICES):
        return (0,), "count"
    if not is_tuple_of(edges, count - 1):
        return (1,), "edges"
    return find_edges_fault(count, edges)


def find_edges_fault(count, edges):
    """Return (path, reason) of the first fault of the edges, None if there is none.

    Each vertex has a group: two vertices are in the same one if the edges
    so far join them.
    """
    groups = list(range(count))
    pair = ()
    for at, edge in enumerate(edges):
        fault = find_edge_fault(count, edge, (1, at))
        if fault is not None:
            return fault
        one, other, delay = edge
        if (one, other) <= pair:
            return (1, at), "order"
        if groups[one] == groups[other]:
            return (1, at), "cycle"
        pair = (one, other)
        groups = merge_groups(groups, groups[one], groups[other])
    return None


def find_edge_fault(count, edge, path):
    """Return (path, reason) of the first fault that one edge has by itself, None if there is none."""
    if not is_tuple_of(edge, 3):
        return path, "edge"
    one, other, delay = edge
    if not is_between(one, 0, count - 1):
        return (*path, 0), "one"
    if not is_between(other, one + 1, count - 1):
        return (*path, 1), "other"
    if not is_delay(delay):
        return (*path, 2), "delay"
    return None


def is_delay(value):
    """Return whether any value is a delay."""
    return is_between(value, 1, DELAY)


def merge_groups(groups, kept, merged):
    """Return the groups after all members of one group have joined another one."""
    return [kept if group == merged else group for group in groups]


def tree_of(count, edges):
    """Return the tree with these edges, which are given in any order and direction."""
    return count, tuple(sorted([(min(one, other), max(one, other), delay) for one, other, delay in edges]))


def is_plain(tree):
    """Return whether all delays of the tree are 1."""
    count, edges = tree
    return all([delay == 1 for one, other, delay in edges])


def neighbours_of(tree, vertex):
    """Return the ascending tuple of the neighbours of the vertex."""
    neighbours = []
    for one, other, delay in tree[1]:
        if one == vertex:
            neighbours.append(other)
        if other == vertex:
            neighbours.append(one)
    return tuple(sorted(neighbours))


def callers_of(tree, source):
    """Return the list of the next vertices on the paths to the source, None for the source."""
    callers = [None for vertex in range(tree[0])]
    waiting = [source]
    while waiting:
        vertex = waiting.pop()
        for neighbour in neighbours_of(tree, vertex):
            if neighbour != callers[vertex]:
                callers[neighbour] = vertex
                waiting.append(neighbour)
    return callers


def path_between(tree, one, other):
    """Return the tuple of the vertices on the path from one to other, both included."""
    callers = callers_of(tree, other)
    path = [one]
    while path[-1] != other:
        path.append(callers[path[-1]])
    return tuple(path)


def distance_between(tree, one, other):
    """Return the sum of the delays on the path from one to other."""
    path = path_between(tree, one, other)
    return sum([delay_between(tree, vertex, away) for vertex, away in zip(path, path[1:])])


def delay_between(tree, vertex, away):
    """Return the delay of the edge between two neighbours."""
    delays = {(one, other): delay for one, other, delay in tree[1]}
    return delays[min(vertex, away), max(vertex, away)]


def branch_of(tree, vertex, away):
    """Return the ascending tuple of the vertices of the branch of the vertex away from away."""
    branch = [vertex]
    for neighbour in neighbours_of(tree, vertex):
        if neighbour != away:
            branch.extend(branch_of(tree, neighbour, vertex))
    return tuple(sorted(branch))
