import copy
import unittest

from tellrounds.collecting import collect_time, is_collection, reverse_schedule
from tellrounds.needs import need_from
from tellrounds.schedules import best_schedule, finish_time
from tests.oracles import (
    collections_until, is_right_collection, right_arrivals, right_collect_time, schedules_of_orders,
)
from tests.samples import D, GREATEST, LARGE, MIXED_LARGE, MIXED_SMALL, MOST, T, TREES, TRIED, mixed_trees, star_tree
from tests.values import FEW, JUNK, changed

THIRTY = 10 ** 30 - 1
ONE = (1, ())
PAIR = (2, ((0, 1, 3),))
# A vertex at which two messages with different delays meet, and one behind it.
MEET = (4, ((0, 1, 2), (1, 2, 1), (1, 3, 1)))


def late(entries, wait, least):
    """Return the entries with all from the least one on moved by the wait."""
    return tuple(entry if entry is None or entry < least else entry + wait for entry in entries)


class IsCollectionTest(unittest.TestCase):
    def check(self, tree, target, value):
        before = copy.deepcopy(value)
        found = is_collection(tree, target, value)
        self.assertIs(found, is_right_collection(tree, target, value), (tree, target, value))
        self.assertEqual(value, before)
        return found

    def test_reversed_schedules(self):
        for tree in TRIED:
            for target in range(tree[0]):
                for entries in schedules_of_orders(tree, target):
                    value = reverse_schedule(tree, target, entries)
                    self.assertIs(self.check(tree, target, value), True)

    def test_with_waiting(self):
        for tree in LARGE + MIXED_LARGE + MIXED_SMALL:
            for target in (0, tree[0] - 1):
                value = reverse_schedule(tree, target, best_schedule(tree, target))
                for wait in (0, 1, 7, THIRTY):
                    for least in {entry for entry in value if entry is not None}:
                        self.check(tree, target, late(value, wait, least))
                    self.assertIs(self.check(tree, target, late(value, wait, 0)), True)

    def test_all_small_entries(self):
        found = 0
        for tree in [PAIR, D, MEET, *mixed_trees(3, 4, 8, 2, 41)]:
            for target in range(tree[0]):
                for numbers in range(5 ** (tree[0] - 1)):
                    entries = [numbers // 5 ** k % 5 for k in range(tree[0] - 1)]
                    found += self.check(tree, target, tuple(entries[:target] + [None] + entries[target:]))
        self.assertGreater(found, 500)

    def test_any_value(self):
        for tree in [ONE, PAIR, T, D, star_tree(MOST, 7)]:
            for target in {0, 1, 7, tree[0] - 1} & set(range(tree[0])):
                for value in JUNK:
                    self.check(tree, target, value)
                    self.check(tree, target, (value,))
                    self.check(tree, target, (value,) * tree[0])

    def test_one_part_changed(self):
        for tree in [ONE, PAIR, T, D, MEET] + MIXED_SMALL[:6]:
            for target in range(tree[0]):
                for value in changed(reverse_schedule(tree, target, best_schedule(tree, target)), JUNK):
                    self.check(tree, target, value)

    def test_one_part_of_a_large_one_changed(self):
        for tree in LARGE + MIXED_LARGE[::5]:
            for target in (0, tree[0] - 1):
                for value in changed(reverse_schedule(tree, target, best_schedule(tree, target)), FEW):
                    self.check(tree, target, value)

    def test_received_at_the_same_time(self):
        self.assertIs(is_collection(MEET, 1, (0, None, 0, 1)), False)
        self.assertIs(is_collection(MEET, 1, (0, None, 0, 2)), True)
        self.assertIs(is_collection(MEET, 3, (0, 2, 0, None)), True)
        self.assertIs(is_collection(MEET, 3, (0, 2, 1, None)), False)
        self.assertIs(is_collection(D, 0, (None, 0, 4)), False)
        self.assertIs(is_collection(D, 0, (None, 4, 4)), True)
        # At different vertices it is allowed.
        self.assertIs(is_collection(T, 1, (1, None, 0, 2, 0)), True)
        self.assertIs(is_collection(T, 1, (3, None, 0, 1, 0)), True)

    def test_sent_at_the_time_of_the_last_receipt_and_one_earlier(self):
        self.assertIs(is_collection(MEET, 3, (0, 2, 0, None)), True)
        self.assertIs(is_collection(MEET, 3, (0, 1, 0, None)), False)
        self.assertIs(is_collection(MEET, 3, (0, 3, 2, None)), True)
        self.assertIs(is_collection(MEET, 3, (0, 2, 2, None)), False)
        self.assertIs(is_collection(D, 2, (5, 0, None)), True)
        self.assertIs(is_collection(D, 2, (4, 0, None)), False)
        self.assertIs(is_collection(D, 2, (THIRTY, THIRTY - 5, None)), True)
        self.assertIs(is_collection(D, 2, (THIRTY, THIRTY - 4, None)), False)

    def test_wrong_kinds(self):
        right = (0, None, 1, 2, 0)
        self.assertIs(is_collection(T, 1, right), True)
        for value in ([0, None, 1, 2, 0], (False, None, 1, 2, 0), (0, None, True, 2, 0), (0, 5, 1, 2, 0),
                      (0, None, 1, 2, None), (None, None, 1, 2, 0), (0, None, 1, 2), (0, None, 1, 2, 0, 0),
                      (-1, None, 1, 2, 0), ("0", None, 1, 2, 0), (None, 0, 1, 2, 0), (), None, ((0, None, 1, 2, 0),)):
            self.assertIs(is_collection(T, 1, value), False, value)
        self.assertIs(is_collection(T, 0, right), False)

    def test_one_vertex(self):
        self.assertIs(is_collection(ONE, 0, (None,)), True)
        for value in ((0,), (), None, [None], (None, None), (False,)):
            self.assertIs(is_collection(ONE, 0, value), False)


class CollectTimeTest(unittest.TestCase):
    def test_small(self):
        for tree in [ONE, PAIR, D, MEET, *mixed_trees(2, 4, 8, 2, 42)]:
            for target in range(tree[0]):
                for value in collections_until(tree, target, 7):
                    self.assertEqual(collect_time(tree, target, value), right_collect_time(tree, target, value))

    def test_large_with_waiting(self):
        for tree in LARGE + MIXED_LARGE:
            for target in (0, tree[0] - 1):
                value = reverse_schedule(tree, target, best_schedule(tree, target))
                self.assertEqual(collect_time(tree, target, value), need_from(tree, target))
                for wait in (1, 1000, THIRTY):
                    moved = late(value, wait, 0)
                    self.assertEqual(collect_time(tree, target, moved), need_from(tree, target) + wait)

    def test_written_out(self):
        self.assertEqual(collect_time(ONE, 0, (None,)), 0)
        self.assertEqual(collect_time(PAIR, 0, (None, 0)), 3)
        self.assertEqual(collect_time(PAIR, 1, (THIRTY, None)), THIRTY + 3)
        # The last message need not be one to the target's nearest vertex.
        self.assertEqual(collect_time(D, 0, (None, 0, 9)), 10)
        self.assertEqual(collect_time(D, 0, (None, 9, 0)), 14)
        self.assertEqual(collect_time((2, ((0, 1, GREATEST),)), 0, (None, 0)), GREATEST)


class ReverseScheduleTest(unittest.TestCase):
    def check(self, tree, source, entries):
        arrivals = right_arrivals(tree, source, entries)
        found = reverse_schedule(tree, source, entries)
        self.assertEqual(found, tuple(None if k == source else max(arrivals) - arrivals[k] for k in range(tree[0])))
        self.assertIs(type(found), tuple)
        self.assertIs(is_right_collection(tree, source, found), True)
        self.assertIs(is_collection(tree, source, found), True)

    def test_all_orders_of_calls(self):
        for tree in TRIED:
            for source in range(tree[0]):
                for entries in schedules_of_orders(tree, source):
                    self.check(tree, source, entries)

    def test_best_schedules_and_waiting(self):
        for tree in TREES + MIXED_LARGE:
            for source in range(tree[0]):
                entries = best_schedule(tree, source)
                self.check(tree, source, entries)
                for wait in (1, THIRTY):
                    self.check(tree, source, late(entries, wait, 0))
                    self.check(tree, source, late(entries, wait, finish_time(tree, source, entries) // 2))

    def test_written_out(self):
        self.assertEqual(reverse_schedule(ONE, 0, (None,)), (None,))
        self.assertEqual(reverse_schedule(PAIR, 0, (None, 0)), (None, 0))
        self.assertEqual(reverse_schedule(PAIR, 1, (THIRTY, None)), (0, None))
        self.assertEqual(reverse_schedule(D, 1, (0, None, 5)), (1, None, 0))
        self.assertEqual(reverse_schedule(D, 0, (None, 0, THIRTY)), (None, THIRTY - 4, 0))


if __name__ == "__main__":
    unittest.main()
