"""Schedules: when the call to each vertex begins."""

from tellrounds.kinds import is_integer, is_tuple_of
from tellrounds.needs import branch_need, call_order, need_from
from tellrounds.trees import callers_of, delay_between


def is_schedule(tree, source, value):
    """Return whether any value is a schedule for the source."""
    if not is_tuple_of(value, tree[0]):
        return False
    callers = callers_of(tree, source)
    if not all([is_entry(entry, caller) for entry, caller in zip(value, callers)]):
        return False
    return is_in_time(tree, source, value) and is_one_at_a_time(callers, value)


def is_entry(entry, caller):
    """Return whether the entry can stand for a vertex with this caller."""
    if caller is None:
        return entry is None
    return is_integer(entry) and entry >= 0


def is_in_time(tree, source, entries):
    """Return whether no entry is less than the arrival of the caller."""
    arrivals = arrivals_of(tree, source, entries)
    callers = callers_of(tree, source)
    return all([caller is None or entry >= arrivals[caller] for entry, caller in zip(entries, callers)])


def is_one_at_a_time(callers, entries):
    """Return whether the entries of any two vertices with the same caller are different."""
    calls = list(zip(callers, entries))
    return len(set(calls)) == len(calls)


def arrivals_of(tree, source, schedule):
    """Return the tuple of the arrivals of all vertices."""
    arrivals = []
    for vertex, caller in enumerate(callers_of(tree, source)):
        if caller is None:
            arrivals.append(0)
        else:
            arrivals.append(schedule[vertex] + delay_between(tree, vertex, caller))
    return tuple(arrivals)


def finish_time(tree, source, schedule):
    """Return the greatest arrival."""
    return max(arrivals_of(tree, source, schedule))


def best_schedule(tree, source):
    """Return the schedule in which each vertex calls in the order of call_order, without waiting."""
    entries = [None for vertex in range(tree[0])]
    waiting = [(source, 0)]
    while waiting:
        vertex, arrival = waiting.pop()
        for at, neighbour in enumerate(call_order(tree, source, vertex)):
            entries[neighbour] = arrival + at
            waiting.append((neighbour, arrival + at + delay_between(tree, vertex, neighbour)))
    return tuple(entries)


def latest_arrivals(tree, source, time):
    """Return the tuple of the latest arrivals for this time, None if the time does not suffice."""
    if time < need_from(tree, source):
        return None
    # The source has no caller, so that the need of its branch is the need from it.
    callers = callers_of(tree, source)
    return tuple([time - branch_need(tree, vertex, caller) for vertex, caller in enumerate(callers)])


def walk_calls(tree, source):
    """Yield (start, caller, vertex) for each call of the best schedule, in ascending order."""
    entries = best_schedule(tree, source)
    callers = callers_of(tree, source)
    calls = [(entries[vertex], callers[vertex], vertex) for vertex in range(tree[0]) if vertex != source]
    for call in sorted(calls):
        yield call
