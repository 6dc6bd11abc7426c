import copy
import inspect
import unittest

from tellrounds.needs import branch_need, call_order, need_from
from tellrounds.schedules import arrivals_of, best_schedule, finish_time, is_schedule, latest_arrivals, walk_calls
from tests.oracles import callers_by_distance, delays_of, is_right_schedule, right_arrivals, schedules_of_orders
from tests.samples import D, GREATEST, LARGE, MIXED_LARGE, MIXED_SMALL, MOST, T, TREES, TRIED, path_tree, star_tree
from tests.values import FEW, JUNK, changed

THIRTY = 10 ** 30 - 1
ALL = TREES + MIXED_LARGE


class IsScheduleTest(unittest.TestCase):
    def check(self, tree, source, value):
        before = copy.deepcopy(value)
        self.assertIs(is_schedule(tree, source, value), is_right_schedule(tree, source, value), (tree, source, value))
        self.assertEqual(value, before)

    def test_all_orders_of_calls(self):
        for tree in TRIED:
            for source in range(tree[0]):
                for entries in schedules_of_orders(tree, source):
                    self.assertIs(is_schedule(tree, source, entries), True, (tree, source, entries))

    def test_any_value(self):
        for tree in [(1, ()), (2, ((0, 1, 3),)), T, D, star_tree(MOST, 7)]:
            for source in {0, 1, 7, tree[0] - 1} & set(range(tree[0])):
                for value in JUNK:
                    self.check(tree, source, value)
                    self.check(tree, source, (value,))
                    self.check(tree, source, (value,) * tree[0])

    def test_one_part_changed(self):
        for tree in [(1, ()), (2, ((0, 1, 3),)), T, D] + MIXED_SMALL[:6]:
            for source in range(tree[0]):
                for value in changed(best_schedule(tree, source), JUNK):
                    self.check(tree, source, value)

    def test_one_part_of_a_large_one_changed(self):
        for tree in LARGE + MIXED_LARGE[::5]:
            for source in (0, tree[0] - 1):
                for value in changed(best_schedule(tree, source), FEW):
                    self.check(tree, source, value)

    def test_waiting(self):
        self.assertIs(is_schedule(T, 1, (9, None, 2, 0, 1)), True)
        self.assertIs(is_schedule(T, 1, (9, None, 2, 0, 9)), True)
        self.assertIs(is_schedule(T, 1, (THIRTY, None, THIRTY - 1, 0, THIRTY)), True)
        self.assertIs(is_schedule(T, 1, (1, None, 2, THIRTY, THIRTY + 1)), True)
        self.assertIs(is_schedule(T, 1, (1, None, 2, THIRTY, THIRTY)), False)

    def test_equal_entries_of_one_caller(self):
        self.assertIs(is_schedule(T, 1, (1, None, 1, 0, 1)), False)
        self.assertIs(is_schedule(T, 1, (2, None, 1, 2, 3)), False)
        self.assertIs(is_schedule(T, 1, (THIRTY, None, THIRTY, 0, 1)), False)

    def test_equal_entries_of_different_callers(self):
        self.assertIs(is_schedule(T, 1, (1, None, 2, 0, 1)), True)
        self.assertIs(is_schedule(T, 1, (1, None, 2, 0, 2)), True)

    def test_an_entry_just_before_the_arrival_of_the_caller(self):
        self.assertIs(is_schedule(T, 1, (1, None, 2, 0, 0)), False)
        self.assertIs(is_schedule(T, 1, (0, None, 2, 3, 3)), False)
        self.assertIs(is_schedule(D, 1, (0, None, 4)), False)
        self.assertIs(is_schedule(D, 1, (0, None, 5)), True)
        self.assertIs(is_schedule(D, 1, (2, None, 6)), False)
        self.assertIs(is_schedule(D, 1, (2, None, 7)), True)

    def test_wrong_kinds(self):
        self.assertIs(is_schedule(T, 1, [1, None, 2, 0, 1]), False)
        self.assertIs(is_schedule(T, 1, (True, None, 2, 0, 1)), False)
        self.assertIs(is_schedule(T, 1, (1, None, 2, False, 1)), False)
        self.assertIs(is_schedule(T, 1, (1, 0, 2, 0, 1)), False)
        self.assertIs(is_schedule(T, 1, (1, False, 2, 0, 1)), False)
        self.assertIs(is_schedule(T, 1, (None, None, 2, 0, 1)), False)
        self.assertIs(is_schedule(T, 1, (-1, None, 2, 0, 1)), False)
        self.assertIs(is_schedule(T, 1, (1, None, 2, 0, 1, 2)), False)
        self.assertIs(is_schedule(T, 1, (1, None, 2, 0)), False)
        self.assertIs(is_schedule(T, 0, (1, None, 2, 0, 1)), False)

    def test_one_vertex(self):
        self.assertIs(is_schedule((1, ()), 0, (None,)), True)
        self.assertIs(is_schedule((1, ()), 0, (0,)), False)
        self.assertIs(is_schedule((1, ()), 0, ()), False)
        self.assertIs(is_schedule((1, ()), 0, None), False)


class ArrivalsTest(unittest.TestCase):
    def test_all_orders_of_calls(self):
        for tree in TRIED:
            for source in range(tree[0]):
                for entries in schedules_of_orders(tree, source):
                    expected = right_arrivals(tree, source, entries)
                    self.assertEqual(arrivals_of(tree, source, entries), expected)
                    self.assertEqual(finish_time(tree, source, entries), max(expected))

    def test_large_with_waiting(self):
        for tree in LARGE + MIXED_LARGE:
            for source in range(tree[0]):
                late = tuple(None if entry is None else entry + THIRTY * (k == 3)
                             for k, entry in enumerate(best_schedule(tree, source)))
                expected = right_arrivals(tree, source, late)
                self.assertEqual(arrivals_of(tree, source, late), expected)
                self.assertEqual(finish_time(tree, source, late), max(expected))

    def test_written_out(self):
        self.assertEqual(arrivals_of((1, ()), 0, (None,)), (0,))
        self.assertEqual(finish_time((1, ()), 0, (None,)), 0)
        self.assertEqual(arrivals_of(D, 2, (7, 8, None)), (8, 13, 0))
        self.assertEqual(finish_time(D, 2, (7, 8, None)), 13)
        self.assertEqual(arrivals_of(D, 0, (None, THIRTY, 0)), (0, THIRTY + 5, 1))
        self.assertEqual(finish_time(D, 0, (None, 0, THIRTY)), THIRTY + 1)
        self.assertIs(type(arrivals_of(T, 1, (1, None, 2, 0, 1))), tuple)


class BestScheduleTest(unittest.TestCase):
    def test_it_is_a_schedule_that_finishes_at_the_need(self):
        for tree in ALL:
            for source in range(tree[0]):
                entries = best_schedule(tree, source)
                self.assertIs(is_right_schedule(tree, source, entries), True)
                self.assertIs(is_schedule(tree, source, entries), True)
                self.assertEqual(finish_time(tree, source, entries), need_from(tree, source))

    def test_in_the_order_of_the_calls_without_waiting(self):
        for tree in ALL:
            for source in range(tree[0]):
                entries = best_schedule(tree, source)
                arrivals = right_arrivals(tree, source, entries)
                self.assertIs(type(entries), tuple)
                self.assertIsNone(entries[source])
                for vertex in range(tree[0]):
                    for at, callee in enumerate(call_order(tree, source, vertex)):
                        self.assertEqual(entries[callee], arrivals[vertex] + at)

    def test_written_out(self):
        self.assertEqual(best_schedule((1, ()), 0), (None,))
        self.assertEqual(best_schedule(D, 0), (None, 0, 1))
        self.assertEqual(best_schedule(D, 1), (0, None, 5))
        self.assertEqual(best_schedule(T, 4), (2, 1, 3, 0, None))
        self.assertEqual(best_schedule(star_tree(MOST, 0), 0), (None, *range(15)))
        self.assertEqual(best_schedule(path_tree(range(MOST)), 15), (*range(14, -1, -1), None))
        self.assertEqual(best_schedule((3, ((0, 1, GREATEST), (1, 2, GREATEST))), 0), (None, 0, GREATEST))


class LatestArrivalsTest(unittest.TestCase):
    def test_at_the_need_and_next_to_it(self):
        for tree in ALL:
            for source in range(tree[0]):
                need = need_from(tree, source)
                callers = callers_by_distance(tree, source)
                for time in (need, need + 1, need + 1000, THIRTY):
                    expected = tuple(
                        time - need if vertex == source else time - branch_need(tree, vertex, callers[vertex])
                        for vertex in range(tree[0])
                    )
                    self.assertEqual(latest_arrivals(tree, source, time), expected)
                for time in {0, need // 2, need - 1} - {-1, need}:
                    self.assertIsNone(latest_arrivals(tree, source, time))

    def test_written_out(self):
        self.assertEqual(latest_arrivals(T, 1, 3), (3, 0, 3, 2, 3))
        self.assertEqual(latest_arrivals(T, 4, 4), (4, 2, 4, 1, 0))
        self.assertEqual(latest_arrivals(T, 1, THIRTY), (THIRTY, THIRTY - 3, THIRTY, THIRTY - 1, THIRTY))
        self.assertIsNone(latest_arrivals(T, 1, 2))
        self.assertEqual(latest_arrivals((1, ()), 0, 0), (0,))
        self.assertEqual(latest_arrivals((1, ()), 0, 7), (7,))
        self.assertEqual(latest_arrivals(D, 1, 6), (5, 0, 6))
        self.assertIs(type(latest_arrivals(T, 1, 3)), tuple)


class WalkCallsTest(unittest.TestCase):
    def test_the_calls_of_the_best_schedule(self):
        for tree in ALL:
            delays = delays_of(tree)
            for source in range(tree[0]):
                rows = list(walk_calls(tree, source))
                self.assertEqual(rows, sorted(rows))
                entries = best_schedule(tree, source)
                self.assertEqual({row[2]: row[0] for row in rows},
                                 {k: entry for k, entry in enumerate(entries) if k != source})
                self.assertEqual(len(rows), tree[0] - 1)
                callers = callers_by_distance(tree, source)
                for row in rows:
                    self.assertIs(type(row), tuple)
                    self.assertIn((row[1], row[2]), delays)
                    self.assertEqual(row[1], callers[row[2]])

    def test_it_is_a_generator(self):
        self.assertTrue(inspect.isgeneratorfunction(walk_calls))
        walk = walk_calls(T, 1)
        self.assertTrue(inspect.isgenerator(walk))
        self.assertEqual(next(walk), (0, 1, 3))
        self.assertEqual(list(walk), [(1, 1, 0), (1, 3, 4), (2, 1, 2)])
        self.assertEqual(list(walk), [])

    def test_one_vertex(self):
        self.assertEqual(list(walk_calls((1, ()), 0)), [])

    def test_equal_starts(self):
        tree = (6, ((0, 1, 1), (0, 2, 1), (1, 3, 1), (1, 4, 1), (2, 5, 1)))
        self.assertEqual(list(walk_calls(tree, 0)), [(0, 0, 1), (1, 0, 2), (1, 1, 3), (2, 1, 4), (2, 2, 5)])
        tree = (5, ((0, 3, 1), (0, 4, 1), (1, 4, 1), (2, 3, 2)))
        self.assertEqual(list(walk_calls(tree, 0)), [(0, 0, 3), (1, 0, 4), (1, 3, 2), (2, 4, 1)])

    def test_a_second_walk_while_a_first_one_is_under_way(self):
        rows = list(walk_calls(T, 1))
        first = walk_calls(T, 1)
        begun = [next(first), next(first)]
        self.assertEqual(list(walk_calls(T, 1)), rows)
        second = walk_calls(T, 1)
        self.assertEqual(next(second), rows[0])
        self.assertEqual(list(walk_calls(D, 1)), [(0, 1, 0), (5, 0, 2)])
        self.assertEqual(begun + list(first), rows)
        self.assertEqual(list(second), rows[1:])


if __name__ == "__main__":
    unittest.main()
