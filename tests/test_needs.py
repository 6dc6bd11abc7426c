import unittest

from tellrounds.errors import TellError, UnknownLimit
from tellrounds.growth import cut_branch
from tellrounds.needs import all_needs, best_sources, branch_need, call_order, need_from, select_sources
from tellrounds.trees import branch_of, neighbours_of
from tests.oracles import callers_by_distance, delays_of, least_branch_finish, least_finish
from tests.samples import (
    D, GREATEST, LARGE, MIXED_LARGE, MOST, T, TREES, TRIED, heap_tree, make_tree, path_tree, star_tree,
)

THIRTY = 10 ** 30 - 1
# The keys at 0 are 4, 4, 4 and 2: of 1 through a path, of 2 by its delay, of 3 by a branch with two leaves.
EQUAL_KEYS = make_tree(9, [(0, 1, 2), (1, 5, 1), (5, 6, 1), (0, 2, 4), (0, 3, 2), (3, 7, 1), (3, 8, 1), (0, 4, 2)])


class BranchNeedTest(unittest.TestCase):
    def test_against_all_orders_of_calls(self):
        for tree in TRIED:
            for vertex, away in delays_of(tree):
                self.assertEqual(branch_need(tree, vertex, away), least_branch_finish(tree, vertex, away), tree)

    def test_it_is_the_need_of_the_branch_alone(self):
        for tree in TREES + MIXED_LARGE:
            for vertex, away in delays_of(tree):
                place = branch_of(tree, vertex, away).index(vertex)
                self.assertEqual(branch_need(tree, vertex, away), need_from(cut_branch(tree, vertex, away)[0], place))

    def test_written_out(self):
        self.assertEqual([branch_need(T, 0, 1), branch_need(T, 1, 0), branch_need(T, 2, 1)], [0, 2, 0])
        self.assertEqual([branch_need(T, 1, 2), branch_need(T, 4, 3), branch_need(T, 3, 4)], [2, 0, 3])
        self.assertEqual([branch_need(D, 0, 1), branch_need(D, 0, 2), branch_need(D, 1, 0)], [1, 5, 0])
        self.assertEqual(branch_need(star_tree(MOST, 7), 7, 0), 14)
        self.assertEqual(branch_need(star_tree(MOST, 7), 0, 7), 0)
        self.assertEqual(branch_need(path_tree(range(MOST)), 5, 4), 10)
        self.assertEqual(branch_need(path_tree(range(MOST)), 5, 6), 5)


class NeedTest(unittest.TestCase):
    def test_against_all_orders_of_calls(self):
        for tree in TRIED:
            for source in range(tree[0]):
                self.assertEqual(need_from(tree, source), least_finish(tree, source), (tree, source))

    def test_all_needs(self):
        for tree in TREES + MIXED_LARGE:
            needs = all_needs(tree)
            self.assertIs(type(needs), tuple)
            self.assertEqual(needs, tuple(need_from(tree, source) for source in range(tree[0])))

    def test_one_vertex(self):
        self.assertEqual(need_from((1, ()), 0), 0)
        self.assertEqual(all_needs((1, ())), (0,))

    def test_written_out(self):
        self.assertEqual(all_needs(D), (5, 6, 6))
        self.assertEqual(all_needs((2, ((0, 1, GREATEST),))), (GREATEST, GREATEST))
        self.assertEqual(all_needs(path_tree(range(5))), (4, 3, 3, 3, 4))
        self.assertEqual(all_needs(path_tree(range(4))), (3, 2, 2, 3))
        self.assertEqual(all_needs(star_tree(MOST, 15)), (15,) * 16)
        self.assertEqual(all_needs(path_tree(range(MOST))), (*range(15, 7, -1), *range(8, 16)))
        long = (MOST, tuple((k, k + 1, GREATEST) for k in range(MOST - 1)))
        self.assertEqual(all_needs(long)[0], 15 * GREATEST)
        self.assertEqual(all_needs(long)[7], 8 * GREATEST)

    def test_calls_over_great_delays_overlap(self):
        star = (4, ((0, 1, 10), (0, 2, 10), (0, 3, 10)))
        self.assertEqual(all_needs(star), (12, 21, 21, 21))
        star = (4, ((0, 1, 10), (0, 2, 9), (0, 3, 8)))
        self.assertEqual(need_from(star, 0), 10)


class CallOrderTest(unittest.TestCase):
    def test_by_descending_keys_and_ascending_vertices(self):
        for tree in TREES + MIXED_LARGE:
            delays = delays_of(tree)
            for source in range(tree[0]):
                callers = callers_by_distance(tree, source)
                for vertex in range(tree[0]):
                    callees = [k for k in range(tree[0]) if callers[k] == vertex]
                    keys = {k: delays[vertex, k] + branch_need(tree, k, vertex) for k in callees}
                    expected = tuple(sorted(sorted(callees), key=lambda k: -keys[k]))
                    self.assertEqual(call_order(tree, source, vertex), expected, (tree, source, vertex))

    def test_equal_keys(self):
        self.assertEqual(call_order(EQUAL_KEYS, 0, 0), (1, 2, 3, 4))
        self.assertEqual(call_order(EQUAL_KEYS, 6, 0), (2, 3, 4))
        self.assertEqual(call_order(EQUAL_KEYS, 0, 3), (7, 8))
        self.assertEqual(call_order(EQUAL_KEYS, 7, 3), (0, 8))
        self.assertEqual(call_order(EQUAL_KEYS, 7, 7), (3,))
        self.assertEqual(call_order(star_tree(MOST, 7), 7, 7), tuple(k for k in range(MOST) if k != 7))
        self.assertEqual(call_order(star_tree(MOST, 7), 3, 7), tuple(k for k in range(MOST) if k not in (3, 7)))

    def test_greater_keys_of_greater_vertices(self):
        self.assertEqual(call_order((4, ((0, 1, 1), (0, 2, 3), (0, 3, 2))), 0, 0), (2, 3, 1))
        self.assertEqual(call_order((4, ((0, 1, 1), (0, 2, 1), (2, 3, 1))), 0, 0), (2, 1))
        self.assertEqual(call_order((4, ((0, 1, 2), (0, 2, 1), (2, 3, 1))), 0, 0), (1, 2))

    def test_nobody_to_call(self):
        self.assertEqual(call_order((1, ()), 0, 0), ())
        self.assertEqual(call_order(T, 0, 4), ())
        self.assertEqual(call_order(D, 1, 2), ())


class BestSourcesTest(unittest.TestCase):
    def test_against_all_orders_of_calls(self):
        for tree in TRIED:
            needs = [least_finish(tree, source) for source in range(tree[0])]
            expected = tuple(k for k in range(tree[0]) if needs[k] == min(needs))
            self.assertEqual(best_sources(tree), expected, tree)

    def test_large(self):
        for tree in LARGE + MIXED_LARGE:
            needs = all_needs(tree)
            self.assertEqual(best_sources(tree), tuple(k for k in range(tree[0]) if needs[k] == min(needs)))

    def test_written_out(self):
        self.assertEqual(best_sources((1, ())), (0,))
        self.assertEqual(best_sources(D), (0,))
        self.assertEqual(best_sources((2, ((0, 1, 7),))), (0, 1))
        self.assertEqual(best_sources(path_tree(range(MOST))), (7, 8))
        self.assertEqual(best_sources(star_tree(MOST, 4)), tuple(range(MOST)))


class SelectSourcesTest(unittest.TestCase):
    def expect(self, tree, needs, limits):
        selected = []
        for vertex, need in enumerate(needs):
            if "least" in limits and need < limits["least"]:
                continue
            if "most" in limits and need > limits["most"]:
                continue
            if "degree" in limits and len(neighbours_of(tree, vertex)) != limits["degree"]:
                continue
            selected.append(vertex)
        return tuple(selected)

    def choices(self, tree):
        needs = all_needs(tree)
        bounds = sorted({0, THIRTY} | {max(0, need + step) for need in needs for step in (-1, 0, 1)})
        for least in [None] + bounds[:5] + bounds[-2:]:
            for most in [None] + bounds[:5] + bounds[-2:]:
                for degree in (None, 0, 1, 2, MOST - 1, THIRTY):
                    limits = {"least": least, "most": most, "degree": degree}
                    yield {name: value for name, value in limits.items() if value is not None}

    def test_each_choice_of_limits(self):
        for tree in [T, D, (1, ()), EQUAL_KEYS, star_tree(MOST, 3), path_tree(range(MOST)), MIXED_LARGE[-1]]:
            needs = all_needs(tree)
            for limits in self.choices(tree):
                before = dict(limits)
                self.assertEqual(select_sources(tree, **limits), self.expect(tree, needs, limits), (tree, limits))
                self.assertEqual(limits, before)

    def test_next_to_the_needs(self):
        self.assertEqual(select_sources(T, least=3), (0, 1, 2, 3, 4))
        self.assertEqual(select_sources(T, least=5), ())
        self.assertEqual(select_sources(T, most=4), (0, 1, 2, 3, 4))
        self.assertEqual(select_sources(T, most=2), ())
        self.assertEqual(select_sources(T, least=4, most=4, degree=1), (4,))
        self.assertEqual(select_sources(T, least=4, most=3), ())
        self.assertEqual(select_sources(T, least=3, most=3, degree=2), (3,))
        self.assertEqual(select_sources(T, degree=1), (0, 2, 4))
        self.assertEqual(select_sources(T, degree=3), (1,))
        self.assertEqual(select_sources(T, degree=0), ())

    def test_no_limit(self):
        self.assertEqual(select_sources((1, ())), (0,))
        self.assertEqual(select_sources(heap_tree(MOST)), tuple(range(MOST)))

    def test_zero_is_a_limit(self):
        self.assertEqual(select_sources((1, ()), most=0), (0,))
        self.assertEqual(select_sources((1, ()), degree=0), (0,))
        self.assertEqual(select_sources((1, ()), least=0, most=0, degree=0), (0,))
        self.assertEqual(select_sources((1, ()), least=1), ())
        self.assertEqual(select_sources(D, most=0), ())

    def test_integers_of_thirty_digits(self):
        self.assertEqual(select_sources(T, least=THIRTY), ())
        self.assertEqual(select_sources(T, most=THIRTY), (0, 1, 2, 3, 4))
        self.assertEqual(select_sources(T, degree=THIRTY), ())

    def test_unknown_names(self):
        known = {"least": 3, "most": 4, "degree": 1}
        for names in (["size"], ["zeta", "alpha"], ["a", "Z"], ["mosts", "mos"], ["Least"], ["degrees", "zz", "leas"],
                      ["", "a"], ["z z", "-"], ["need", "nee"], ["x", "n", "m", "e", "c"]):
            for others in ({}, known, {"most": 0}, {"degree": THIRTY}):
                for limits in ({**others, **dict.fromkeys(names, 0)}, {**dict.fromkeys(names, 0), **others}):
                    with self.assertRaises(UnknownLimit) as caught:
                        select_sources(T, **limits)
                    self.assertEqual(caught.exception.name, min(names))
                    self.assertIsInstance(caught.exception, TellError)

    def test_by_name_only(self):
        with self.assertRaises(TypeError):
            select_sources(T, 3)


class KindsTest(unittest.TestCase):
    def test_returned_kinds(self):
        for tree in LARGE + [T, D, (1, ())]:
            rows = [all_needs(tree), best_sources(tree), select_sources(tree, least=0)]
            rows += [call_order(tree, 0, vertex) for vertex in range(tree[0])]
            for row in rows:
                self.assertIs(type(row), tuple)
                self.assertEqual({type(part) for part in row} - {int}, set())
            self.assertIs(type(need_from(tree, 0)), int)


if __name__ == "__main__":
    unittest.main()
