"""Collecting: when each vertex sends its message on to a target."""

from tellrounds.kinds import is_tuple_of
from tellrounds.schedules import arrivals_of, finish_time, is_entry, is_one_at_a_time
from tellrounds.trees import callers_of


def is_collection(tree, target, value):
    """Return whether any value is a collection at the target."""
    if not is_tuple_of(value, tree[0]):
        return False
    receivers = callers_of(tree, target)
    if not all([is_entry(entry, receiver) for entry, receiver in zip(value, receivers)]):
        return False
    # A message is received as long after it is sent as a call arrives after it begins.
    receipts = arrivals_of(tree, target, value)
    return is_passed_on(target, value, receivers, receipts) and is_one_at_a_time(receivers, receipts)


def is_passed_on(target, entries, receivers, receipts):
    """Return whether each vertex sends no earlier than it has received all its messages."""
    for receiver, receipt in zip(receivers, receipts):
        if receiver is not None and receiver != target and receipt > entries[receiver]:
            return False
    return True


def collect_time(tree, target, collection):
    """Return the greatest time at which a message is received, 0 if there is none."""
    return finish_time(tree, target, collection)


def reverse_schedule(tree, source, schedule):
    """Return the collection at the source that is the schedule in reverse."""
    arrivals = arrivals_of(tree, source, schedule)
    finish = max(arrivals)
    return tuple([None if entry is None else finish - arrival for entry, arrival in zip(schedule, arrivals)])
