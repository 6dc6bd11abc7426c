"""Growth: leaves, joined trees and cut branches."""

from tellrounds.bounds import VERTICES
from tellrounds.errors import LastVertex, NotLeaf, TooMany
from tellrounds.needs import end_times, need_from, ranked_calls
from tellrounds.trees import branch_of, neighbours_of


def add_leaf(tree, vertex, delay):
    """Return the tree with one more vertex and an edge with this delay between it and the vertex."""
    if tree[0] >= VERTICES:
        raise TooMany()
    return hang_leaf(tree, vertex, delay)


def hang_leaf(tree, vertex, delay):
    """Return what add_leaf returns, however many vertices the tree has."""
    count, edges = tree
    return count + 1, tuple(sorted([*edges, (vertex, count, delay)]))


def drop_leaf(tree, vertex):
    """Return the tree without the vertex and its edge."""
    if tree[0] == 1:
        raise LastVertex()
    if len(neighbours_of(tree, vertex)) > 1:
        raise NotLeaf(vertex)
    return part_of(tree, [kept for kept in range(tree[0]) if kept != vertex])


def part_of(tree, vertices):
    """Return the tree of these ascending vertices, numbered from 0, and the edges between them."""
    numbers = {vertex: number for number, vertex in enumerate(vertices)}
    edges = []
    for one, other, delay in tree[1]:
        if one in numbers and other in numbers:
            edges.append((numbers[one], numbers[other], delay))
    return len(vertices), tuple(edges)


def spare_of(tree, vertex):
    """Return the greatest key that one more neighbour can have without a greater need from the vertex."""
    calls = ranked_calls(tree, vertex, None)
    if not calls:
        return 0
    times = end_times(calls)
    need = max(times)
    # A call that ends at the need cannot begin later, so that the new key is less than its key.
    return min([key for (key, neighbour), time in zip(calls, times) if time == need]) - 1


def joined_need(need, spare, key):
    """Return the need after one more neighbour with this key was joined to a vertex."""
    if key <= spare:
        return need
    return max(need + 1, key)


def free_vertices(tree, source, delay):
    """Return the ascending tuple of the vertices at which a new leaf does not raise the need."""
    need = need_from(tree, source)
    free = []
    for vertex in range(tree[0]):
        if need_from(hang_leaf(tree, vertex, delay), source) == need:
            free.append(vertex)
    return tuple(free)


def join_trees(one, vertex, other, end, delay):
    """Return the tree of both trees and an edge with this delay between vertex and end."""
    shift, edges = one
    count = shift + other[0]
    if count > VERTICES:
        raise TooMany()
    moved = [(low + shift, high + shift, gap) for low, high, gap in other[1]]
    return count, tuple(sorted([*edges, *moved, (vertex, end + shift, delay)]))


def join_all(first, *others, delay=1):
    """Return the tree of all trees and edges between vertex 0 of the first one and of each other one."""
    tree = first
    for other in others:
        tree = join_trees(tree, 0, other, 0, delay)
    return tree


def cut_branch(tree, vertex, away):
    """Return the branch of the vertex away from away, and the rest, as trees."""
    return part_of(tree, branch_of(tree, vertex, away)), part_of(tree, branch_of(tree, away, vertex))
