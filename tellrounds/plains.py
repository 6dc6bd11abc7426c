"""Plain trees: their best sources, and the largest ones for a need."""

from tellrounds.errors import NotPlain, TooSmall
from tellrounds.growth import join_trees
from tellrounds.needs import best_sources
from tellrounds.trees import is_plain, neighbours_of


def source_star(tree):
    """Return (centre, others) for the best sources of a plain tree with two or more vertices."""
    if not is_plain(tree):
        raise NotPlain()
    if tree[0] == 1:
        raise TooSmall()
    best = best_sources(tree)
    centres = [vertex for vertex in best if is_next_to(tree, vertex, others_than(vertex, best))]
    centre = centres[0]
    return centre, others_than(centre, best)


def is_next_to(tree, vertex, others):
    """Return whether the vertex is a neighbour of all the others."""
    neighbours = neighbours_of(tree, vertex)
    return all([other in neighbours for other in others])


def others_than(vertex, vertices):
    """Return the tuple of the vertices without one of them."""
    return tuple([other for other in vertices if other != vertex])


def full_tree(rounds):
    """Return the plain tree with the most vertices in which the need from vertex 0 is rounds."""
    tree = (1, ())
    for step in range(rounds):
        tree = join_trees(tree, 0, tree, 0, 1)
    return tree
