"""Slow answers, made straight from the words of the document, to compare with."""

import functools
from itertools import combinations, permutations, product

from tests.samples import all_distances


@functools.cache
def delays_of(tree):
    """Return the delays by pairs of neighbours, in both directions."""
    delays = {}
    for one, other, delay in tree[1]:
        delays[one, other] = delays[other, one] = delay
    return delays


@functools.cache
def callers_by_distance(tree, source):
    """Return the caller of each vertex: the neighbour that is nearer to the source."""
    table = all_distances(tree)
    delays = delays_of(tree)
    callers = []
    for vertex in range(tree[0]):
        nearer = [k for k in range(tree[0]) if (k, vertex) in delays and table[k][source] < table[vertex][source]]
        callers.append(nearer[0] if nearer else None)
    return callers


def callees_of(callers):
    return [[k for k, caller in enumerate(callers) if caller == vertex] for vertex in range(len(callers))]


def schedules_of_orders(tree, source):
    """Yield the schedule of each way to order the calls of all vertices, without waiting."""
    callers = callers_by_distance(tree, source)
    delays = delays_of(tree)
    for orders in product(*[list(permutations(row)) for row in callees_of(callers)]):
        entries = [None] * tree[0]
        arrivals = {source: 0}
        while len(arrivals) < tree[0]:
            for vertex in list(arrivals):
                for at, callee in enumerate(orders[vertex]):
                    entries[callee] = arrivals[vertex] + at
                    arrivals[callee] = entries[callee] + delays[vertex, callee]
        yield tuple(entries)


def right_arrivals(tree, source, entries):
    callers = callers_by_distance(tree, source)
    delays = delays_of(tree)
    return tuple(0 if k == source else entries[k] + delays[k, callers[k]] for k in range(tree[0]))


def least_finish(tree, source):
    """Return the least finish time of all orders of calls."""
    return min(max(right_arrivals(tree, source, entries)) for entries in schedules_of_orders(tree, source))


def least_branch_finish(tree, vertex, away):
    """Return the least finish time of all orders of calls in the branch of the vertex away from away."""
    delays = delays_of(tree)
    callees = [k for k in range(tree[0]) if (vertex, k) in delays and k != away]
    keys = [delays[vertex, k] + least_branch_finish(tree, k, vertex) for k in callees]
    return min(max([at + key for at, key in enumerate(order)], default=0) for order in permutations(keys))


def is_right_schedule(tree, source, value):
    if type(value) is not tuple or len(value) != tree[0]:
        return False
    for vertex, entry in enumerate(value):
        if vertex == source:
            if entry is not None:
                return False
        elif type(entry) is not int or entry < 0:
            return False
    callers = callers_by_distance(tree, source)
    arrivals = right_arrivals(tree, source, value)
    for vertex in range(tree[0]):
        if vertex != source and value[vertex] < arrivals[callers[vertex]]:
            return False
    for one, other in combinations(range(tree[0]), 2):
        if callers[one] == callers[other] and value[one] == value[other]:
            return False
    return True


def schedules_until(tree, source, time):
    """Yield all schedules that finish at the time or earlier, by trying all entries."""
    choices = [[None] if vertex == source else range(time) for vertex in range(tree[0])]
    for entries in product(*choices):
        if is_right_schedule(tree, source, entries) and max(right_arrivals(tree, source, entries)) <= time:
            yield entries


def right_witness_value(tree, source, value):
    """Return the value of a witness for the source, None for any other value."""
    callers = callers_by_distance(tree, source)
    delays = delays_of(tree)

    def value_at(vertex, witness):
        if type(witness) is not tuple or len(witness) != 2:
            return None
        head, parts = witness
        if type(head) is not int or head != vertex or type(parts) is not tuple:
            return None
        sums = []
        last = -1
        for part in parts:
            if type(part) is not tuple or len(part) != 2 or type(part[0]) is not int:
                return None
            callee = part[0]
            if callee <= last or callee >= tree[0] or callers[callee] != vertex:
                return None
            worth = value_at(callee, part)
            if worth is None:
                return None
            sums.append(delays[vertex, callee] + worth)
            last = callee
        return 0 if not sums else len(sums) - 1 + min(sums)

    return value_at(source, value)


def all_witnesses(tree, source):
    """Return all witnesses for the source."""
    callees = callees_of(callers_by_distance(tree, source))

    def witnesses_at(vertex):
        choices = [[None] + witnesses_at(callee) for callee in callees[vertex]]
        return [(vertex, tuple(part for part in parts if part is not None)) for parts in product(*choices)]

    return witnesses_at(source)


def rename(tree, names):
    """Return the tree with names[k] in the place of vertex k."""
    edges = [(min(names[a], names[b]), max(names[a], names[b]), delay) for a, b, delay in tree[1]]
    return tree[0], tuple(sorted(edges))


def is_right_collection(tree, target, value):
    """Return whether a value is a collection at the target, message by message."""
    if type(value) is not tuple or len(value) != tree[0]:
        return False
    if value[target] is not None:
        return False
    for vertex, entry in enumerate(value):
        if vertex != target and (type(entry) is not int or entry < 0):
            return False
    table = all_distances(tree)
    for vertex in range(tree[0]):
        received = []
        for (one, other), delay in delays_of(tree).items():
            if other == vertex and table[one][target] > table[vertex][target]:
                received.append(value[one] + delay)
        if len(set(received)) < len(received):
            return False
        if vertex != target and received and max(received) > value[vertex]:
            return False
    return True


def right_collect_time(tree, target, value):
    """Return the greatest time at which a message is received."""
    callers = callers_by_distance(tree, target)
    delays = delays_of(tree)
    return max([value[k] + delays[k, callers[k]] for k in range(tree[0]) if k != target], default=0)


def collections_until(tree, target, time):
    """Yield all collections in which each message is received at the time or earlier, by trying all entries."""
    choices = [[None] if vertex == target else range(time) for vertex in range(tree[0])]
    for entries in product(*choices):
        if is_right_collection(tree, target, entries) and right_collect_time(tree, target, entries) <= time:
            yield entries


def count_by_orders(tree, source, time):
    """Return the number of schedules that finish in time: for each order of calls, by their rising starts."""
    callees = callees_of(callers_by_distance(tree, source))
    delays = delays_of(tree)

    @functools.cache
    def count_from(vertex, left):
        if left < 0:
            return 0
        return sum(count_rising(vertex, order, left) for order in permutations(callees[vertex]))

    @functools.cache
    def count_rising(vertex, order, left):
        """Count the ways in which the calls begin in this order, each later than the one before it."""
        if not order:
            return 1
        total = 0
        for start in range(left):
            behind = count_from(order[0], left - start - delays[vertex, order[0]])
            if behind:
                total += behind * count_rising(vertex, order[1:], left - start - 1)
        return total

    return count_from(source, time)
