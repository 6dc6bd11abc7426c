"""Actions: what the methods of a book do to a tree, with any values in the place of their arguments."""

from tellrounds.bounds import BATCH
from tellrounds.changes import move_branch, set_delay
from tellrounds.errors import InBranch, InvalidDelay, NoSuchEdge, NoSuchVertex
from tellrounds.growth import add_leaf, drop_leaf
from tellrounds.kinds import is_between
from tellrounds.trees import branch_of, is_delay, neighbours_of

SIZES = {"change_delay": 3, "grow": 2, "prune": 1, "move": 3}


def check_vertices(tree, values):
    """Raise an error for the first of the values that is not a vertex."""
    for value in values:
        if not is_between(value, 0, tree[0] - 1):
            raise NoSuchVertex(value)


def check_edge(tree, vertex, away):
    """Raise an error if the two vertices are not neighbours."""
    if away not in neighbours_of(tree, vertex):
        raise NoSuchEdge(vertex, away)


def check_delay(value):
    """Raise an error if the value is not a delay."""
    if not is_delay(value):
        raise InvalidDelay(value)


def change_delay_in(tree, vertex, away, delay):
    """Return the tree after the action change_delay."""
    check_vertices(tree, (vertex, away))
    check_edge(tree, vertex, away)
    check_delay(delay)
    return set_delay(tree, vertex, away, delay)


def grow_in(tree, vertex, delay):
    """Return the tree after the action grow."""
    check_vertices(tree, (vertex,))
    check_delay(delay)
    return add_leaf(tree, vertex, delay)


def prune_in(tree, vertex):
    """Return the tree after the action prune."""
    check_vertices(tree, (vertex,))
    return drop_leaf(tree, vertex)


def move_in(tree, vertex, away, target):
    """Return the tree after the action move."""
    check_vertices(tree, (vertex, away, target))
    check_edge(tree, vertex, away)
    if target in branch_of(tree, vertex, away):
        raise InBranch(target)
    return move_branch(tree, vertex, away, target)


CHANGES = {"change_delay": change_delay_in, "grow": grow_in, "prune": prune_in, "move": move_in}


def tree_after(tree, action):
    """Return the tree after an action (name, ...)."""
    name, *values = action
    change = CHANGES[name]
    return change(tree, *values)


def count_arguments(name):
    """Return the number of arguments of the action with any value as its name, None if there is none."""
    if not isinstance(name, str):
        return None
    return SIZES.get(name)


def is_action(value):
    """Return whether any value is a tuple (name, ...) with as many arguments as the action takes."""
    if not isinstance(value, tuple) or len(value) == 0:
        return False
    size = count_arguments(value[0])
    return size is not None and len(value) == size + 1


def read_batch(value):
    """Return the tuple of the actions of a batch, None if the value is not a batch."""
    if not isinstance(value, (list, tuple)) or len(value) > BATCH:
        return None
    if not all([is_action(action) for action in value]):
        return None
    return tuple(value)
