import unittest

from tellrounds.errors import NotPlain, TellError, TooSmall
from tellrounds.needs import best_sources, need_from
from tellrounds.plains import full_tree, source_star
from tellrounds.trees import find_fault, is_plain, neighbours_of
from tests.oracles import delays_of, least_finish
from tests.samples import (
    D, GREATEST, LARGE_PLAIN, MOST, T, all_plain_trees, heap_tree, make_plain, make_tree, mixed_trees, path_tree,
    star_tree, vary_delays,
)

ONE = (1, ())
MIXED_PLAIN = mixed_trees(2, MOST, 150, 1, 31)


class SourceStarTest(unittest.TestCase):
    def check(self, tree, best):
        found = source_star(tree)
        centre, others = found
        self.assertIs(type(found), tuple)
        self.assertIs(type(centre), int)
        self.assertIs(type(others), tuple)
        self.assertEqual(tuple(sorted([centre, *others])), best)
        self.assertEqual(others, tuple(sorted(others)))
        self.assertGreaterEqual(len(others), 1)
        self.assertNotIn(centre, others)
        for other in others:
            self.assertIn((centre, other), delays_of(tree))
        if len(best) == 2:
            self.assertEqual(found, (best[0], (best[1],)))

    def test_small_against_all_orders_of_calls(self):
        for count in range(2, 6):
            for tree in all_plain_trees(count):
                needs = [least_finish(tree, source) for source in range(count)]
                self.check(tree, tuple(k for k in range(count) if needs[k] == min(needs)))

    def test_all_shapes(self):
        pairs = 0
        for tree in [*MIXED_PLAIN, *LARGE_PLAIN, *all_plain_trees(6)[::7]]:
            best = best_sources(tree)
            self.check(tree, best)
            pairs += len(best) == 2
        self.assertGreater(pairs, 10)

    def test_two_best_sources(self):
        for one, other in ((0, 1), (1, 0), (3, 5), (5, 3), (15, 2)):
            # Two stars of the same size whose middles are joined.
            rest = [k for k in range(MOST) if k not in (one, other)]
            pairs = [(one, other)] + [(one, k) for k in rest[:7]] + [(other, k) for k in rest[7:]]
            tree = make_plain(MOST, pairs)
            self.assertEqual(best_sources(tree), (min(one, other), max(one, other)))
            self.assertEqual(source_star(tree), (min(one, other), (max(one, other),)))
        self.assertEqual(source_star((2, ((0, 1, 1),))), (0, (1,)))

    def test_written_out(self):
        self.assertEqual(source_star(path_tree([1, 0, 2])), (0, (1, 2)))
        self.assertEqual(source_star(path_tree(range(4))), (1, (2,)))
        self.assertEqual(source_star(path_tree([3, 1, 0, 2])), (0, (1,)))
        self.assertEqual(source_star(star_tree(MOST, 7)), (7, tuple(k for k in range(MOST) if k != 7)))
        self.assertEqual(source_star(star_tree(MOST, 0)), (0, tuple(range(1, MOST))))
        # The neighbour 4 of the centre 1 is not a best source.
        self.assertEqual(source_star(T), (1, (0, 2, 3)))

    def test_not_plain(self):
        for tree in [D, (2, ((0, 1, 2),)), (2, ((0, 1, GREATEST),)), make_tree(3, [(0, 1, 1), (1, 2, 2)]),
                     make_tree(3, [(0, 1, 2), (1, 2, 1)]), *[vary_delays(tree) for tree in LARGE_PLAIN]]:
            with self.assertRaises(NotPlain) as caught:
                source_star(tree)
            self.assertIsInstance(caught.exception, TellError)

    def test_one_vertex(self):
        with self.assertRaises(TooSmall) as caught:
            source_star(ONE)
        self.assertIsInstance(caught.exception, TellError)


class FullTreeTest(unittest.TestCase):
    def test_written_out(self):
        self.assertEqual(full_tree(0), ONE)
        self.assertEqual(full_tree(1), (2, ((0, 1, 1),)))
        self.assertEqual(full_tree(2), (4, ((0, 1, 1), (0, 2, 1), (2, 3, 1))))
        self.assertEqual(full_tree(3), make_plain(8, [(0, 1), (0, 2), (0, 4), (2, 3), (4, 5), (4, 6), (6, 7)]))

    def test_copies(self):
        for rounds in range(4):
            count, edges = full_tree(rounds)
            moved = [(a + count, b + count, delay) for a, b, delay in edges]
            self.assertEqual(full_tree(rounds + 1), make_tree(2 * count, [*edges, *moved, (0, count, 1)]))

    def test_needs(self):
        for rounds in range(5):
            tree = full_tree(rounds)
            self.assertEqual(tree[0], 2 ** rounds)
            self.assertIsNone(find_fault(tree))
            self.assertIs(is_plain(tree), True)
            self.assertEqual(need_from(tree, 0), rounds)
            self.assertEqual(len(neighbours_of(tree, 0)), rounds)

    def test_against_the_heap_with_the_same_number(self):
        self.assertEqual(full_tree(4)[0], MOST)
        self.assertGreater(need_from(heap_tree(MOST), 0), 4)


if __name__ == "__main__":
    unittest.main()
