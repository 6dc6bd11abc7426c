import inspect
import unittest

from tellrounds.errors import LastVertex, NotLeaf, TellError, TooMany
from tellrounds.growth import (
    add_leaf, cut_branch, drop_leaf, free_vertices, join_all, join_trees, joined_need, spare_of,
)
from tellrounds.needs import need_from
from tellrounds.trees import branch_of, find_fault, neighbours_of
from tests.oracles import delays_of, least_branch_finish, least_finish, rename
from tests.samples import (
    D, GREATEST, LARGE, MIXED_LARGE, MIXED_SMALL, MOST, T, TREES, TRIED, make_tree, path_tree, star_tree,
)

THIRTY = 10 ** 30 - 1
ONE = (1, ())


def hang(tree, vertex, delay):
    """Return the tree with one more leaf, also beyond the greatest number of vertices."""
    return make_tree(tree[0] + 1, [*tree[1], (vertex, tree[0], delay)])


def need_with_key(tree, vertex, key):
    """Return the need from the vertex with one more neighbour with this key."""
    delays = delays_of(tree)
    keys = [delays[vertex, k] + least_branch_finish(tree, k, vertex) for k in neighbours_of(tree, vertex)]
    return max(at + number for at, number in enumerate(sorted([*keys, key], reverse=True)))


class AddLeafTest(unittest.TestCase):
    def test_every_vertex(self):
        for tree in TREES + MIXED_LARGE:
            for vertex in range(tree[0]):
                for delay in (1, 2, GREATEST):
                    if tree[0] == MOST:
                        with self.assertRaises(TooMany):
                            add_leaf(tree, vertex, delay)
                    else:
                        self.assertEqual(add_leaf(tree, vertex, delay), hang(tree, vertex, delay))

    def test_up_to_the_greatest_number(self):
        tree = ONE
        for k in range(MOST - 1):
            tree = add_leaf(tree, k // 2, k + 1)
            self.assertIsNone(find_fault(tree))
            self.assertEqual(tree[0], k + 2)
        with self.assertRaises(TooMany) as caught:
            add_leaf(tree, 0, 1)
        self.assertIsInstance(caught.exception, TellError)

    def test_written_out(self):
        self.assertEqual(add_leaf(ONE, 0, 7), (2, ((0, 1, 7),)))
        self.assertEqual(add_leaf(T, 0, 7), (6, ((0, 1, 1), (0, 5, 7), (1, 2, 1), (1, 3, 1), (3, 4, 1))))
        self.assertEqual(add_leaf(T, 4, 1), (6, ((0, 1, 1), (1, 2, 1), (1, 3, 1), (3, 4, 1), (4, 5, 1))))


class DropLeafTest(unittest.TestCase):
    def test_every_vertex(self):
        for tree in TREES + MIXED_LARGE:
            for vertex in range(tree[0]):
                if tree[0] > 1 and len(neighbours_of(tree, vertex)) == 1:
                    kept = [edge for edge in tree[1] if vertex not in edge[:2]]
                    names = [k - (k > vertex) for k in range(tree[0])]
                    self.assertEqual(drop_leaf(tree, vertex), rename((tree[0] - 1, tuple(kept)), names))
                elif tree[0] > 1:
                    with self.assertRaises(NotLeaf) as caught:
                        drop_leaf(tree, vertex)
                    self.assertEqual(caught.exception.vertex, vertex)
                    self.assertIsInstance(caught.exception, TellError)

    def test_one_vertex(self):
        with self.assertRaises(LastVertex) as caught:
            drop_leaf(ONE, 0)
        self.assertIsInstance(caught.exception, TellError)

    def test_written_out(self):
        self.assertEqual(drop_leaf((2, ((0, 1, 7),)), 0), ONE)
        self.assertEqual(drop_leaf((2, ((0, 1, 7),)), 1), ONE)
        self.assertEqual(drop_leaf(T, 2), (4, ((0, 1, 1), (1, 2, 1), (2, 3, 1))))
        self.assertEqual(drop_leaf(T, 4), (4, ((0, 1, 1), (1, 2, 1), (1, 3, 1))))
        self.assertEqual(drop_leaf(D, 1), (2, ((0, 1, 1),)))
        self.assertEqual(drop_leaf(D, 2), (2, ((0, 1, 5),)))

    def test_it_takes_back_what_add_leaf_did(self):
        for tree in TREES:
            if tree[0] < MOST:
                for vertex in range(tree[0]):
                    self.assertEqual(drop_leaf(add_leaf(tree, vertex, 3), tree[0]), tree)


class SpareTest(unittest.TestCase):
    def test_against_all_keys(self):
        for tree in [ONE, T, D] + MIXED_SMALL + TREES[3:60]:
            for vertex in range(tree[0]):
                need = least_finish(tree, vertex)
                same = [key for key in range(need + 3) if need_with_key(tree, vertex, key) == need]
                self.assertEqual(spare_of(tree, vertex), max(same), (tree, vertex))

    def test_a_leaf_with_this_delay(self):
        for tree in TREES + MIXED_LARGE:
            for vertex in range(tree[0]):
                need = need_from(tree, vertex)
                spare = spare_of(tree, vertex)
                self.assertIs(type(spare), int)
                self.assertGreater(need_from(hang(tree, vertex, spare + 1), vertex), need)
                if spare > 0:
                    self.assertEqual(need_from(hang(tree, vertex, spare), vertex), need)

    def test_written_out(self):
        self.assertEqual(spare_of(ONE, 0), 0)
        self.assertEqual([spare_of(T, k) for k in range(5)], [2, 0, 2, 2, 3])
        self.assertEqual([spare_of(D, k) for k in range(3)], [4, 5, 5])
        self.assertEqual(spare_of((2, ((0, 1, 1),)), 0), 0)
        self.assertEqual(spare_of((2, ((0, 1, GREATEST),)), 1), GREATEST - 1)
        self.assertEqual(spare_of(star_tree(MOST, 0), 0), 0)
        self.assertEqual(spare_of(star_tree(MOST, 0), 9), 14)
        self.assertEqual(spare_of((4, ((0, 1, 5), (0, 2, 3), (0, 3, 3))), 0), 2)
        self.assertEqual(spare_of((3, ((0, 1, 5), (0, 2, 4))), 0), 3)


class JoinedNeedTest(unittest.TestCase):
    def test_three_integers(self):
        numbers = [0, 1, 2, 3, 9, THIRTY - 1, THIRTY]
        for need in numbers:
            for spare in numbers:
                for key in numbers:
                    expected = need if key <= spare else max(need + 1, key)
                    self.assertEqual(joined_need(need, spare, key), expected)

    def test_written_out(self):
        self.assertEqual(joined_need(0, 0, 0), 0)
        self.assertEqual(joined_need(0, 0, 1), 1)
        self.assertEqual(joined_need(0, 0, 2), 2)
        self.assertEqual(joined_need(3, 2, 4), 4)
        self.assertEqual(joined_need(3, 2, 5), 5)
        self.assertEqual(joined_need(THIRTY, THIRTY - 1, THIRTY), THIRTY + 1)
        self.assertEqual(joined_need(THIRTY, THIRTY, THIRTY), THIRTY)
        self.assertEqual(joined_need(1, 0, THIRTY), THIRTY)


class FreeVerticesTest(unittest.TestCase):
    def test_against_all_orders_of_calls(self):
        for tree in [ONE, T, D] + MIXED_SMALL[:25] + [path_tree(range(4)), star_tree(4, 1)]:
            for source in range(tree[0]):
                need = least_finish(tree, source)
                for delay in (1, 2, 3, 7):
                    expected = tuple(k for k in range(tree[0]) if least_finish(hang(tree, k, delay), source) == need)
                    self.assertEqual(free_vertices(tree, source, delay), expected, (tree, source, delay))

    def test_large(self):
        for tree in LARGE + MIXED_LARGE:
            for source in (0, tree[0] - 1):
                for delay in (1, 4, GREATEST):
                    need = need_from(tree, source)
                    expected = tuple(k for k in range(tree[0]) if need_from(hang(tree, k, delay), source) == need)
                    self.assertEqual(free_vertices(tree, source, delay), expected, (tree, source, delay))

    def test_written_out(self):
        self.assertEqual(free_vertices(T, 4, 2), (3, 4))
        self.assertEqual(free_vertices(T, 1, 1), (0, 2, 3, 4))
        self.assertEqual(free_vertices(ONE, 0, 1), ())
        self.assertEqual(free_vertices(D, 0, 3), (0, 2))
        self.assertEqual(free_vertices(D, 0, 4), (0,))
        self.assertEqual(free_vertices(D, 0, 5), ())
        self.assertEqual(free_vertices(D, 0, GREATEST), ())
        # Sixteen vertices, where no leaf can be added any more.
        self.assertEqual(free_vertices(path_tree(range(MOST)), 0, 1), tuple(range(14)))
        self.assertEqual(free_vertices(path_tree(range(MOST)), 0, 5), tuple(range(10)))
        self.assertEqual(free_vertices(star_tree(MOST, 0), 0, 1), tuple(range(1, 16)))
        self.assertEqual(free_vertices(star_tree(MOST, 0), 0, 14), tuple(range(1, 16)))
        self.assertEqual(free_vertices(star_tree(MOST, 0), 0, 15), ())


class JoinTreesTest(unittest.TestCase):
    def test_all_pairs(self):
        trees = [ONE, T, D, (2, ((0, 1, GREATEST),)), *MIXED_SMALL[:8]]
        for one in trees:
            for other in trees:
                for vertex in range(one[0]):
                    for end in range(other[0]):
                        moved = [(a + one[0], b + one[0], delay) for a, b, delay in other[1]]
                        edges = [*one[1], *moved, (vertex, one[0] + end, 7)]
                        joined = join_trees(one, vertex, other, end, 7)
                        self.assertEqual(joined, make_tree(one[0] + other[0], edges))
                        self.assertIsNone(find_fault(joined))

    def test_the_greatest_number_and_one_beyond(self):
        for size in range(1, MOST + 1):
            for beyond in (0, 1, 2):
                many = MOST - size + beyond
                if not 1 <= many <= MOST:
                    continue
                one = path_tree(range(size))
                other = star_tree(many, 0)
                if beyond:
                    with self.assertRaises(TooMany) as caught:
                        join_trees(one, size - 1, other, many - 1, 1)
                    self.assertIsInstance(caught.exception, TellError)
                else:
                    self.assertIsNone(find_fault(join_trees(one, size - 1, other, many - 1, 1)))
        with self.assertRaises(TooMany):
            join_trees(path_tree(range(MOST)), 0, path_tree(range(MOST)), 0, 1)

    def test_written_out(self):
        self.assertEqual(join_trees(ONE, 0, ONE, 0, GREATEST), (2, ((0, 1, GREATEST),)))
        self.assertEqual(join_trees(D, 1, ONE, 0, 7), (4, ((0, 1, 5), (0, 2, 1), (1, 3, 7))))
        self.assertEqual(join_trees(D, 0, D, 2, 7), (6, ((0, 1, 5), (0, 2, 1), (0, 5, 7), (3, 4, 5), (3, 5, 1))))


class JoinAllTest(unittest.TestCase):
    def test_the_first_tree_alone(self):
        for tree in TREES:
            self.assertEqual(join_all(tree), tree)
            self.assertEqual(join_all(tree, delay=9), tree)

    def test_against_join_trees(self):
        trees = [D, ONE, (2, ((0, 1, GREATEST),)), T]
        for many in range(1, len(trees) + 1):
            for delay in (1, 2, GREATEST):
                expected = trees[0]
                for other in trees[1:many]:
                    expected = join_trees(expected, 0, other, 0, delay)
                self.assertEqual(join_all(*trees[:many], delay=delay), expected)
                if delay == 1:
                    self.assertEqual(join_all(*trees[:many]), expected)

    def test_the_greatest_number_and_one_beyond(self):
        self.assertEqual(join_all(*[ONE] * MOST), star_tree(MOST, 0))
        self.assertEqual(join_all(path_tree(range(MOST))), path_tree(range(MOST)))
        self.assertEqual(join_all(T, T, T, ONE)[0], MOST)
        for trees in ([ONE] * (MOST + 1), [T, T, T, ONE, ONE], [path_tree(range(MOST)), ONE], [ONE] * 40,
                      [ONE, path_tree(range(MOST))], [T, T, T, (2, ((0, 1, 1),))], [path_tree(range(MOST))] * 3):
            with self.assertRaises(TooMany):
                join_all(*trees)
            with self.assertRaises(TooMany):
                join_all(*trees, delay=3)

    def test_written_out(self):
        self.assertEqual(join_all(ONE, D), (4, ((0, 1, 1), (1, 2, 5), (1, 3, 1))))
        self.assertEqual(join_all(D, ONE, ONE, delay=9), (5, ((0, 1, 5), (0, 2, 1), (0, 3, 9), (0, 4, 9))))

    def test_delay_is_passed_by_name(self):
        self.assertEqual(str(inspect.signature(join_all)), "(first, *others, delay=1)")


class CutBranchTest(unittest.TestCase):
    def test_both_sides_of_every_edge(self):
        for tree in TREES + MIXED_LARGE:
            for vertex, away in delays_of(tree):
                branch, rest = cut_branch(tree, vertex, away)
                inside = branch_of(tree, vertex, away)
                outside = branch_of(tree, away, vertex)
                for part, vertices in ((branch, inside), (rest, outside)):
                    self.assertIsNone(find_fault(part))
                    edges = [(vertices.index(a), vertices.index(b), delay) for a, b, delay in tree[1]
                             if a in vertices and b in vertices]
                    self.assertEqual(part, make_tree(len(vertices), edges))

    def test_joined_again(self):
        for tree in TREES + MIXED_LARGE:
            for (vertex, away), delay in delays_of(tree).items():
                branch, rest = cut_branch(tree, vertex, away)
                inside = branch_of(tree, vertex, away)
                outside = branch_of(tree, away, vertex)
                joined = join_trees(rest, outside.index(away), branch, inside.index(vertex), delay)
                self.assertEqual(rename(joined, outside + inside), tree)

    def test_written_out(self):
        self.assertEqual(cut_branch(T, 1, 3), ((3, ((0, 1, 1), (1, 2, 1))), (2, ((0, 1, 1),))))
        self.assertEqual(cut_branch(D, 1, 0), (ONE, (2, ((0, 1, 1),))))
        self.assertEqual(cut_branch(D, 0, 1), ((2, ((0, 1, 1),)), ONE))
        self.assertEqual(cut_branch((2, ((0, 1, 7),)), 1, 0), (ONE, ONE))
        self.assertIs(type(cut_branch(T, 1, 3)), tuple)


class KindsTest(unittest.TestCase):
    def test_returned_trees(self):
        for tree in TRIED + MIXED_LARGE:
            trees = [join_all(tree), *(cut_branch(tree, 0, neighbours_of(tree, 0)[0]) if tree[0] > 1 else ())]
            if tree[0] < MOST:
                trees += [add_leaf(tree, 0, 1), join_trees(tree, 0, ONE, 0, 1), join_all(tree, ONE)]
            if tree[0] > 1:
                leaf = [k for k in range(tree[0]) if len(neighbours_of(tree, k)) == 1][0]
                trees.append(drop_leaf(tree, leaf))
            for found in trees:
                self.assertIsNone(find_fault(found))
            self.assertIs(type(free_vertices(tree, 0, 1)), tuple)


if __name__ == "__main__":
    unittest.main()
