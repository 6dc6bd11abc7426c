"""Witnesses: tuples (vertex, parts) which show that no schedule is faster."""

from tellrounds.kinds import is_integer, is_tuple_of
from tellrounds.needs import end_times, ranked_calls
from tellrounds.schedules import finish_time, is_schedule
from tellrounds.trees import delay_between, neighbours_of


def witness_value(tree, source, value):
    """Return the value of a witness for the source, None if the value is not one."""
    if not is_witness(tree, source, None, value):
        return None
    return value_of(tree, value)


def is_witness(tree, vertex, away, value):
    """Return whether any value is a witness for the vertex with the caller away (None for a source)."""
    if not has_witness_form(value) or value[0] != vertex:
        return False
    parts = value[1]
    if not all([has_witness_form(part) for part in parts]):
        return False
    heads = [part[0] for part in parts]
    # Exactly the heads that are in ascending order, different and allowed come back here.
    if heads != [neighbour for neighbour in neighbours_of(tree, vertex) if neighbour != away and neighbour in heads]:
        return False
    return all([is_witness(tree, head, vertex, part) for head, part in zip(heads, parts)])


def has_witness_form(value):
    """Return whether the value is a tuple of an integer and a tuple."""
    return is_tuple_of(value, 2) and is_integer(value[0]) and isinstance(value[1], tuple)


def value_of(tree, witness):
    """Return the value of a witness."""
    vertex, parts = witness
    sums = [delay_between(tree, vertex, part[0]) + value_of(tree, part) for part in parts]
    if not sums:
        return 0
    return len(sums) - 1 + min(sums)


def find_witness(tree, source):
    """Return a witness for the source whose value is the need from it."""
    return find_branch_witness(tree, source, None)


def find_branch_witness(tree, vertex, away):
    """Return a witness for the vertex whose value is the need of its branch away from away.

    The need is the end of the call with some index: the calls up to this one
    have keys that are not less, so that they make a witness of this value.
    """
    calls = ranked_calls(tree, vertex, away)
    if not calls:
        return vertex, ()
    times = end_times(calls)
    size = times.index(max(times)) + 1
    chosen = sorted([neighbour for key, neighbour in calls[:size]])
    return vertex, tuple([find_branch_witness(tree, neighbour, vertex) for neighbour in chosen])


def check_certificate(tree, source, value):
    """Return whether any value is a schedule and a witness for the source with equal numbers."""
    if not is_tuple_of(value, 2):
        return False
    schedule, witness = value
    if not is_schedule(tree, source, schedule):
        return False
    return finish_time(tree, source, schedule) == witness_value(tree, source, witness)
