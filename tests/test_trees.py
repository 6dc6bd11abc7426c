import unittest

from tellrounds.trees import branch_of, distance_between, is_plain, neighbours_of, path_between
from tests.samples import GREATEST, LARGE_PLAIN, MOST, SMALL, TREES, D, T, all_distances, path_tree, star_tree


def joins(tree):
    """Return the pairs of neighbours, in both directions."""
    return {(a, b) for a, b, _ in tree[1]} | {(b, a) for a, b, _ in tree[1]}


class IsPlainTest(unittest.TestCase):
    def test_plain(self):
        for tree in SMALL + LARGE_PLAIN + [T]:
            self.assertIs(is_plain(tree), True, tree)

    def test_one_vertex(self):
        self.assertIs(is_plain((1, ())), True)

    def test_one_other_delay_anywhere(self):
        for tree in SMALL + LARGE_PLAIN:
            count, edges = tree
            for k, (a, b, _) in enumerate(edges):
                for delay in (2, GREATEST):
                    changed = (count, edges[:k] + ((a, b, delay),) + edges[k + 1:])
                    self.assertIs(is_plain(changed), False, changed)

    def test_not_plain(self):
        self.assertIs(is_plain(D), False)
        self.assertIs(is_plain((2, ((0, 1, GREATEST),))), False)
        self.assertIs(is_plain((3, ((0, 1, 2), (0, 2, 2)))), False)


class NeighboursTest(unittest.TestCase):
    def test_every_vertex(self):
        for tree in TREES:
            pairs = joins(tree)
            for vertex in range(tree[0]):
                expected = tuple(k for k in range(tree[0]) if (vertex, k) in pairs)
                self.assertEqual(neighbours_of(tree, vertex), expected, (tree, vertex))

    def test_written_out(self):
        self.assertEqual(neighbours_of((1, ()), 0), ())
        self.assertEqual(neighbours_of(D, 0), (1, 2))
        self.assertEqual(neighbours_of(D, 2), (0,))
        self.assertEqual([neighbours_of(T, k) for k in range(5)], [(1,), (0, 2, 3), (1,), (1, 4), (3,)])
        self.assertEqual(neighbours_of(star_tree(MOST, 7), 7), (0, 1, 2, 3, 4, 5, 6, 8, 9, 10, 11, 12, 13, 14, 15))
        self.assertEqual(neighbours_of(path_tree(range(MOST)), 15), (14,))


class PathTest(unittest.TestCase):
    def test_every_pair_of_vertices(self):
        for tree in TREES:
            table = all_distances(tree)
            for one in range(tree[0]):
                for other in range(tree[0]):
                    on_path = [k for k in range(tree[0])
                               if table[one][k] + table[k][other] == table[one][other]]
                    expected = tuple(sorted(on_path, key=lambda k: table[one][k]))
                    self.assertEqual(path_between(tree, one, other), expected, (tree, one, other))
                    self.assertEqual(distance_between(tree, one, other), table[one][other], (tree, one, other))

    def test_both_directions(self):
        for tree in TREES:
            for one in range(tree[0]):
                for other in range(one + 1, tree[0]):
                    self.assertEqual(path_between(tree, one, other), path_between(tree, other, one)[::-1])
                    self.assertEqual(distance_between(tree, one, other), distance_between(tree, other, one))

    def test_equal_vertices(self):
        for tree in TREES:
            for vertex in range(tree[0]):
                self.assertEqual(path_between(tree, vertex, vertex), (vertex,))
                self.assertEqual(distance_between(tree, vertex, vertex), 0)

    def test_every_edge(self):
        for tree in TREES:
            for one, other, delay in tree[1]:
                self.assertEqual(path_between(tree, one, other), (one, other))
                self.assertEqual(path_between(tree, other, one), (other, one))
                self.assertEqual(distance_between(tree, one, other), delay)
                self.assertEqual(distance_between(tree, other, one), delay)

    def test_written_out(self):
        self.assertEqual(path_between(D, 1, 2), (1, 0, 2))
        self.assertEqual(path_between(T, 4, 2), (4, 3, 1, 2))
        self.assertEqual(distance_between(T, 4, 2), 3)
        long = (MOST, tuple((k, k + 1, GREATEST) for k in range(MOST - 1)))
        self.assertEqual(path_between(long, 0, 15), tuple(range(MOST)))
        self.assertEqual(path_between(long, 15, 0), tuple(range(MOST))[::-1])
        self.assertEqual(distance_between(long, 15, 0), 15 * GREATEST)


class BranchTest(unittest.TestCase):
    def test_every_edge_in_both_directions(self):
        for tree in TREES:
            table = all_distances(tree)
            for vertex, away in sorted(joins(tree)):
                expected = tuple(k for k in range(tree[0]) if table[k][vertex] < table[k][away])
                self.assertEqual(branch_of(tree, vertex, away), expected, (tree, vertex, away))

    def test_the_two_branches_of_an_edge_make_the_tree(self):
        for tree in TREES:
            for one, other, _ in tree[1]:
                both = branch_of(tree, one, other) + branch_of(tree, other, one)
                self.assertEqual(sorted(both), list(range(tree[0])))

    def test_written_out(self):
        self.assertEqual(branch_of(T, 1, 3), (0, 1, 2))
        self.assertEqual(branch_of(T, 1, 0), (1, 2, 3, 4))
        self.assertEqual(branch_of(T, 0, 1), (0,))
        self.assertEqual(branch_of(D, 0, 1), (0, 2))
        self.assertEqual(branch_of(D, 1, 0), (1,))
        self.assertEqual(branch_of(star_tree(MOST, 7), 7, 3), (0, 1, 2) + tuple(range(4, MOST)))
        self.assertEqual(branch_of(star_tree(MOST, 7), 3, 7), (3,))
        self.assertEqual(branch_of(path_tree(range(MOST)), 8, 7), tuple(range(8, MOST)))


class KindsTest(unittest.TestCase):
    def test_returned_kinds(self):
        for tree in TREES:
            for vertex in range(tree[0]):
                self.check_row(neighbours_of(tree, vertex))
                self.check_row(path_between(tree, vertex, 0))
                self.assertIs(type(distance_between(tree, vertex, 0)), int)
            for vertex, away in joins(tree):
                self.check_row(branch_of(tree, vertex, away))

    def check_row(self, row):
        self.assertIs(type(row), tuple)
        self.assertEqual({type(part) for part in row} - {int}, set())


if __name__ == "__main__":
    unittest.main()
