import unittest
from itertools import permutations

from tellrounds.changes import move_branch, relabel_tree, set_delay, stretch_tree
from tellrounds.errors import OutOfRange, TellError
from tellrounds.trees import branch_of, find_fault
from tests.model import branch_by_distance, right_tree
from tests.oracles import delays_of, rename
from tests.samples import (
    D, GREATEST, LARGE, MIXED_LARGE, MIXED_SMALL, MOST, T, TREES, mixed_trees, path_tree, star_tree, vary_delays,
)

THIRTY = 10 ** 30 - 1
ONE = (1, ())
ALL = TREES + MIXED_SMALL + MIXED_LARGE


class SetDelayTest(unittest.TestCase):
    def test_every_edge_in_both_directions(self):
        for tree in ALL:
            for (vertex, away), old in delays_of(tree).items():
                for delay in {1, 2, GREATEST - 1, GREATEST, old}:
                    changed = set_delay(tree, vertex, away, delay)
                    expected = tuple(
                        (a, b, delay) if {a, b} == {vertex, away} else (a, b, gap) for a, b, gap in tree[1]
                    )
                    self.assertEqual(changed, (tree[0], expected))
                    self.assertIsNone(find_fault(changed))

    def test_the_old_delay(self):
        for tree in ALL:
            for (vertex, away), old in delays_of(tree).items():
                self.assertEqual(set_delay(tree, vertex, away, old), tree)

    def test_written_out(self):
        self.assertEqual(set_delay(D, 0, 2, 4), (3, ((0, 1, 5), (0, 2, 4))))
        self.assertEqual(set_delay(D, 1, 0, 4), (3, ((0, 1, 4), (0, 2, 1))))
        self.assertEqual(set_delay((2, ((0, 1, 7),)), 1, 0, GREATEST), (2, ((0, 1, GREATEST),)))
        self.assertEqual(set_delay(T, 3, 1, 9), (5, ((0, 1, 1), (1, 2, 1), (1, 3, 9), (3, 4, 1))))

    def test_the_argument_stays(self):
        tree = (3, ((0, 1, 5), (0, 2, 1)))
        set_delay(tree, 0, 1, 9)
        self.assertEqual(tree, D)


class MoveBranchTest(unittest.TestCase):
    def test_every_allowed_target(self):
        for tree in ALL:
            for vertex, away in delays_of(tree):
                inside = branch_by_distance(tree, vertex, away)
                for target in range(tree[0]):
                    if target not in inside:
                        moved = move_branch(tree, vertex, away, target)
                        self.assertEqual(moved, right_tree(tree, "move", vertex, away, target))
                        self.assertIsNone(find_fault(moved))
                        self.assertEqual(branch_of(moved, vertex, target), tuple(inside))

    def test_the_old_place(self):
        for tree in ALL:
            for vertex, away in delays_of(tree):
                self.assertEqual(move_branch(tree, vertex, away, away), tree)

    def test_there_and_back(self):
        for tree in MIXED_LARGE:
            for vertex, away in delays_of(tree):
                for target in set(range(tree[0])) - set(branch_of(tree, vertex, away)):
                    moved = move_branch(tree, vertex, away, target)
                    self.assertEqual(move_branch(moved, vertex, target, away), tree)

    def test_written_out(self):
        self.assertEqual(move_branch(T, 1, 3, 4), (5, ((0, 1, 1), (1, 2, 1), (1, 4, 1), (3, 4, 1))))
        self.assertEqual(move_branch(T, 0, 1, 4), (5, ((0, 4, 1), (1, 2, 1), (1, 3, 1), (3, 4, 1))))
        self.assertEqual(move_branch(D, 1, 0, 2), (3, ((0, 2, 1), (1, 2, 5))))
        self.assertEqual(move_branch(D, 2, 0, 1), (3, ((0, 1, 5), (1, 2, 1))))
        self.assertEqual(move_branch(D, 0, 1, 1), D)
        self.assertEqual(move_branch((2, ((0, 1, 7),)), 1, 0, 0), (2, ((0, 1, 7),)))


class RelabelTreeTest(unittest.TestCase):
    def check(self, tree, order):
        names = [order.index(k) for k in range(tree[0])]
        relabelled = relabel_tree(tree, order)
        self.assertEqual(relabelled, rename(tree, names))
        self.assertIsNone(find_fault(relabelled))
        self.assertEqual(relabel_tree(relabelled, tuple(names)), tree)
        delays = delays_of(tree)
        for (a, b), delay in delays_of(relabelled).items():
            self.assertEqual(delays[order[a], order[b]], delay)

    def test_all_orders_of_small_trees(self):
        for tree in [ONE, D, T, (2, ((0, 1, 7),))] + mixed_trees(4, 5, 12, 9, 11):
            for order in permutations(range(tree[0])):
                self.check(tree, order)

    def test_large(self):
        for tree in LARGE + MIXED_LARGE:
            count = tree[0]
            self.check(tree, tuple(range(count)))
            self.check(tree, tuple(range(count - 1, -1, -1)))
            self.check(tree, tuple((k + 5) % count for k in range(count)))
            self.check(tree, tuple(sorted(range(count), key=lambda k: (k % 3, -k))))

    def test_the_same_order_returns_the_tree(self):
        for tree in ALL:
            self.assertEqual(relabel_tree(tree, tuple(range(tree[0]))), tree)

    def test_written_out(self):
        self.assertEqual(relabel_tree(D, (2, 0, 1)), (3, ((0, 1, 1), (1, 2, 5))))
        self.assertEqual(relabel_tree(D, (1, 2, 0)), (3, ((0, 2, 5), (1, 2, 1))))
        self.assertEqual(relabel_tree(ONE, (0,)), ONE)
        self.assertEqual(relabel_tree(T, (4, 3, 2, 1, 0)), (5, ((0, 1, 1), (1, 3, 1), (2, 3, 1), (3, 4, 1))))


class StretchTreeTest(unittest.TestCase):
    def test_the_last_factor_and_one_more(self):
        for tree in [tree for tree in ALL if tree[0] > 1]:
            greatest = max(edge[2] for edge in tree[1])
            last = GREATEST // greatest
            for factor in {1, min(2, last), last}:
                stretched = stretch_tree(tree, factor)
                self.assertEqual(stretched, (tree[0], tuple((a, b, delay * factor) for a, b, delay in tree[1])))
                self.assertIsNone(find_fault(stretched))
            for factor in (last + 1, GREATEST + 1, THIRTY - 1, THIRTY):
                with self.assertRaises(OutOfRange) as caught:
                    stretch_tree(tree, factor)
                self.assertIsInstance(caught.exception, TellError)
                self.assertEqual(vars(caught.exception), {})

    def test_one_vertex(self):
        for factor in (1, 2, GREATEST, GREATEST + 1, THIRTY):
            self.assertEqual(stretch_tree(ONE, factor), ONE)

    def test_written_out(self):
        self.assertEqual(stretch_tree(D, 1), D)
        self.assertEqual(stretch_tree(D, 200000000), (3, ((0, 1, GREATEST), (0, 2, 200000000))))
        with self.assertRaises(OutOfRange):
            stretch_tree(D, 200000001)
        # The last edge alone is too great.
        with self.assertRaises(OutOfRange):
            stretch_tree((3, ((0, 1, 1), (0, 2, GREATEST))), 2)
        with self.assertRaises(OutOfRange):
            stretch_tree((3, ((0, 1, GREATEST), (0, 2, 1))), 2)


class KindsTest(unittest.TestCase):
    def test_tuples_all_through(self):
        for tree in [T, D, path_tree(range(MOST)), vary_delays(star_tree(MOST, 7))]:
            vertex, away, delay = tree[1][0]
            order = tuple(range(tree[0] - 1, -1, -1))
            for found in (set_delay(tree, vertex, away, 3), move_branch(tree, vertex, away, away),
                          relabel_tree(tree, order), stretch_tree(tree, 1)):
                self.assertIs(type(found), tuple)
                self.assertIs(type(found[1]), tuple)
                for edge in found[1]:
                    self.assertIs(type(edge), tuple)
                    self.assertEqual([type(part) for part in edge], [int] * 3)


if __name__ == "__main__":
    unittest.main()
