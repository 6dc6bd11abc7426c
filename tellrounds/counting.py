"""Counting: how many schedules finish in time."""

from tellrounds.bounds import COUNTED, COUNT_TIME
from tellrounds.errors import TooLarge, TooLate
from tellrounds.trees import delay_between, neighbours_of


def count_schedules(tree, source, time):
    """Return the number of schedules for the source that finish at the time or earlier."""
    if tree[0] > COUNTED:
        raise TooLarge(COUNTED)
    if time > COUNT_TIME:
        raise TooLate(COUNT_TIME)
    return branch_counts(tree, source, None, time)[time]


def branch_counts(tree, vertex, away, time):
    """Return the list that has, for each time from 0 to this one, the number of schedules of the branch.

    It is the branch of the vertex away from away (None for a source), and the
    vertex has the message at time 0.
    """
    callees = [neighbour for neighbour in neighbours_of(tree, vertex) if neighbour != away]
    rows = [call_counts(tree, vertex, callee, time) for callee in callees]
    # Groups of callees are numbered by their bits. Without any time, only the empty group can be called.
    ways = [1] + [0] * ((1 << len(rows)) - 1)
    counts = []
    for left in range(time + 1):
        ways = call_one_more(ways, [row[left] for row in rows])
        counts.append(ways[-1])
    return counts


def call_counts(tree, vertex, callee, time):
    """Return the list that has, for each time left when the call begins, the number of schedules behind it."""
    delay = min(delay_between(tree, vertex, callee), time + 1)
    counts = [0] * delay + branch_counts(tree, callee, vertex, time)
    return counts[:time + 1]


def call_one_more(ways, numbers):
    """Return the number of ways to call each group if one call can begin earlier than those so far.

    ways has these numbers without this call. numbers has, for each callee, the
    number of schedules behind this call if it goes to the callee.
    """
    more = list(ways)
    for group in range(len(ways)):
        for at, number in enumerate(numbers):
            bit = 1 << at
            if group & bit > 0:
                more[group] += number * ways[group - bit]
    return more
