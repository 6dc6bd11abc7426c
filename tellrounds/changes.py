"""Changes: trees with other delays, places or numbers."""

from tellrounds.bounds import DELAY
from tellrounds.errors import OutOfRange
from tellrounds.trees import delay_between, tree_of


def set_delay(tree, vertex, away, delay):
    """Return the tree with this delay on the edge between vertex and away."""
    return replace_edge(tree, vertex, away, (vertex, away, delay))


def move_branch(tree, vertex, away, target):
    """Return the tree in which the edge between vertex and away joins vertex and target instead."""
    return replace_edge(tree, vertex, away, (vertex, target, delay_between(tree, vertex, away)))


def replace_edge(tree, vertex, away, edge):
    """Return the tree with another edge in the place of the one between vertex and away."""
    count, edges = tree
    pair = (min(vertex, away), max(vertex, away))
    kept = [(one, other, delay) for one, other, delay in edges if (one, other) != pair]
    return tree_of(count, [*kept, edge])


def relabel_tree(tree, order):
    """Return the tree whose vertex k is vertex order[k] of this tree."""
    count, edges = tree
    return tree_of(count, [(order.index(one), order.index(other), delay) for one, other, delay in edges])


def stretch_tree(tree, factor):
    """Return the tree with all delays multiplied by the factor."""
    count, edges = tree
    stretched = tuple([(one, other, delay * factor) for one, other, delay in edges])
    if any([delay > DELAY for one, other, delay in stretched]):
        raise OutOfRange()
    return count, stretched
