import math
import unittest

from tellrounds.counting import count_schedules
from tellrounds.errors import TellError, TooLarge, TooLate
from tellrounds.needs import need_from
from tests.oracles import count_by_orders, schedules_until
from tests.samples import (
    D, GREATEST, MOST, T, all_plain_trees, caterpillar, heap_tree, make_tree, mixed_trees, path_tree, star_tree,
    vary_delays,
)

COUNTED = 9
LATEST = 20
THIRTY = 10 ** 30 - 1
ONE = (1, ())
TINY = [ONE, D, (2, ((0, 1, 3),)), (3, ((0, 1, 2), (1, 2, 2)))] + mixed_trees(2, 4, 15, 3, 21)
TINY += [tree for count in (2, 3, 4) for tree in all_plain_trees(count)]
NINE = [path_tree(range(COUNTED)), star_tree(COUNTED, 0), star_tree(COUNTED, 4), heap_tree(COUNTED),
        caterpillar(COUNTED), make_tree(COUNTED, [(0, k, k) for k in range(1, COUNTED)])]
NINE += mixed_trees(COUNTED, COUNTED, 10, 2, 22) + mixed_trees(COUNTED, COUNTED, 6, 4, 23)


class CountTest(unittest.TestCase):
    def test_against_a_list_of_all_schedules(self):
        for tree in TINY:
            for source in range(tree[0]):
                need = need_from(tree, source)
                for time in range(min(need + 3, 9)):
                    found = count_schedules(tree, source, time)
                    self.assertEqual(found, len(list(schedules_until(tree, source, time))), (tree, source, time))
                    self.assertIs(type(found), int)

    def test_five_vertices(self):
        mixed = make_tree(5, [(0, 1, 2), (1, 2, 1), (1, 3, 2), (0, 4, 1)])
        for tree in [T, star_tree(5, 2), path_tree([2, 0, 1, 4, 3]), mixed]:
            for source in range(5):
                for time in range(7):
                    expected = len(list(schedules_until(tree, source, time)))
                    self.assertEqual(count_schedules(tree, source, time), expected)

    def test_nine_vertices(self):
        for tree in NINE:
            # With more calls than these from one vertex there are too many orders to try.
            if max(sum(vertex in edge[:2] for edge in tree[1]) for vertex in range(COUNTED)) > 5:
                continue
            for source in range(COUNTED):
                for time in (0, need_from(tree, source) - 1, need_from(tree, source), 11, 20):
                    if 0 <= time <= LATEST:
                        self.assertEqual(count_schedules(tree, source, time), count_by_orders(tree, source, time))

    def test_paths_from_an_end(self):
        for count in range(1, COUNTED + 1):
            for delay in (1, 2, 3):
                tree = make_tree(count, [(k, k + 1, delay) for k in range(count - 1)])
                for time in range(LATEST + 1):
                    calls = count - 1
                    free = time - calls * delay
                    expected = math.comb(free + calls, calls) if free >= 0 else 0
                    self.assertEqual(count_schedules(tree, 0, time), expected)
                    self.assertEqual(count_schedules(tree, count - 1, time), expected)

    def test_stars_from_the_middle(self):
        for count in range(1, COUNTED + 1):
            for delay in (1, 2, 5, 13, 20, 21, GREATEST):
                tree = make_tree(count, [(0, k, delay) for k in range(1, count)])
                for time in range(LATEST + 1):
                    starts = max(time - delay + 1, 0)
                    self.assertEqual(count_schedules(tree, 0, time), math.perm(starts, count - 1))

    def test_stars_with_many_delays(self):
        tree = make_tree(COUNTED, [(0, k, k) for k in range(1, COUNTED)])
        for time in range(LATEST + 1):
            # The call with the greatest delay has the fewest starts; each longer one takes one of the others'.
            expected = 1
            for at, delay in enumerate(range(COUNTED - 1, 0, -1)):
                expected *= max(time - delay + 1 - at, 0)
            self.assertEqual(count_schedules(tree, 0, time), expected)

    def test_nothing_before_the_need(self):
        for tree in TINY + NINE + [vary_delays(tree) for tree in NINE]:
            for source in range(tree[0]):
                need = need_from(tree, source)
                for time in range(min(need, LATEST + 1)):
                    self.assertEqual(count_schedules(tree, source, time), 0)
                if need <= LATEST:
                    self.assertGreater(count_schedules(tree, source, need), 0)

    def test_one_vertex(self):
        for time in range(LATEST + 1):
            self.assertEqual(count_schedules(ONE, 0, time), 1)

    def test_written_out(self):
        self.assertEqual(count_schedules(T, 1, 3), 6)
        self.assertEqual(count_schedules(D, 0, 5), 4)
        self.assertEqual(count_schedules(D, 0, 4), 0)
        self.assertEqual(count_schedules((2, ((0, 1, 1),)), 0, 20), 20)
        self.assertEqual(count_schedules(star_tree(9, 0), 0, 20), 20 * 19 * 18 * 17 * 16 * 15 * 14 * 13)
        self.assertEqual(count_schedules(path_tree(range(9)), 0, 20), 125970)


class LimitsTest(unittest.TestCase):
    def test_each_limit_and_one_beyond_it(self):
        for count in range(1, MOST + 1):
            for tree in (path_tree(range(count)), star_tree(count, 0), vary_delays(star_tree(count, count - 1))):
                for source in (0, count - 1):
                    for time in (0, 19, 20, 21, 22, GREATEST, THIRTY):
                        if count > COUNTED:
                            with self.assertRaises(TooLarge) as caught:
                                count_schedules(tree, source, time)
                            self.assertEqual(caught.exception.limit, COUNTED)
                        elif time > LATEST:
                            with self.assertRaises(TooLate) as caught:
                                count_schedules(tree, source, time)
                            self.assertEqual(caught.exception.limit, LATEST)
                        else:
                            count_schedules(tree, source, time)

    def test_kinds(self):
        for tree, time, kind in ((star_tree(10, 0), 20, TooLarge), (star_tree(9, 0), 21, TooLate),
                                 (star_tree(10, 0), 21, TooLarge)):
            with self.assertRaises(kind) as caught:
                count_schedules(tree, 0, time)
            self.assertIsInstance(caught.exception, TellError)


if __name__ == "__main__":
    unittest.main()
