"""The guarantees of the document, on small trees by trying everything, and on large ones."""

import random
import unittest

from tellrounds.books import Book
from tellrounds.collecting import collect_time, is_collection, reverse_schedule
from tellrounds.growth import add_leaf, cut_branch, join_trees, joined_need, spare_of
from tellrounds.needs import all_needs, best_sources, branch_need, need_from
from tellrounds.plains import full_tree, source_star
from tellrounds.schedules import arrivals_of, best_schedule, finish_time, is_schedule, latest_arrivals
from tellrounds.texts import format_tree
from tellrounds.trees import branch_of, is_plain, neighbours_of
from tellrounds.witnesses import check_certificate, find_witness, witness_value
from tests.model import answers_of, outcome_of
from tests.oracles import (
    all_witnesses, collections_until, delays_of, is_right_schedule, least_finish, right_arrivals, right_collect_time,
    right_witness_value, schedules_until,
)
from tests.samples import (
    D, LARGE, LARGE_PLAIN, MIXED_LARGE, MIXED_SMALL, MOST, T, all_distances, all_plain_trees, heap_tree, make_tree,
    mixed_trees, path_tree, star_tree, vary_delays,
)

ONE = (1, ())
TINY = [ONE, T, D] + [tree for count in (2, 3, 4) for tree in all_plain_trees(count)]
TINY += [tree for tree in mixed_trees(2, 4, 12, 3, 8)]
HUNG = [ONE, D, (2, ((0, 1, 1),)), path_tree(range(4)), star_tree(5, 2), star_tree(4, 0), heap_tree(7)]
HUNG += MIXED_SMALL[:20]


def late_schedules(tree, source):
    """Yield schedules with waiting: of the best one, with all entries in the branch of a vertex moved on."""
    entries = best_schedule(tree, source)
    for vertex in range(tree[0]):
        if vertex == source:
            continue
        for wait in (1, 2, 5, 1000):
            moved = list(entries)
            for k in range(tree[0]):
                if k == vertex or k != source and vertex in path_to(tree, k, source):
                    moved[k] += wait
            if is_right_schedule(tree, source, tuple(moved)):
                yield tuple(moved)


def path_to(tree, vertex, source):
    """Return the vertices between the vertex and the source, both included."""
    delays = delays_of(tree)
    rows = [(source,)]
    for row in rows:
        if row[-1] == vertex:
            return row
        rows.extend([(*row, k) for k in range(tree[0]) if (row[-1], k) in delays and k not in row])
    return None


class LeastAndGreatestTest(unittest.TestCase):
    """(a)"""

    def test_all_schedules_and_all_witnesses(self):
        for tree in TINY:
            for source in range(tree[0]):
                need = need_from(tree, source)
                finishes = [finish_time(tree, source, entries) for entries in schedules_until(tree, source, need)]
                values = [witness_value(tree, source, witness) for witness in all_witnesses(tree, source)]
                self.assertEqual(min(finishes), need, (tree, source))
                self.assertEqual(max(values), need, (tree, source))

    def test_all_orders_and_all_witnesses(self):
        for tree in MIXED_SMALL:
            for source in range(tree[0]):
                values = [witness_value(tree, source, witness) for witness in all_witnesses(tree, source)]
                self.assertEqual(max(values), least_finish(tree, source))

    def test_accepted_numbers_show_the_need(self):
        for tree in LARGE + MIXED_LARGE:
            for source in range(tree[0]):
                entries = best_schedule(tree, source)
                witness = find_witness(tree, source)
                self.assertIs(is_right_schedule(tree, source, entries), True)
                self.assertEqual(max(right_arrivals(tree, source, entries)), need_from(tree, source))
                self.assertEqual(right_witness_value(tree, source, witness), need_from(tree, source))
                self.assertIs(check_certificate(tree, source, (entries, witness)), True)


class LatestArrivalsTest(unittest.TestCase):
    """(b)"""

    def check(self, tree, source, entries, time):
        latest = latest_arrivals(tree, source, time)
        arrivals = arrivals_of(tree, source, entries)
        in_time = latest is not None and all(a <= b for a, b in zip(arrivals, latest))
        self.assertIs(in_time, finish_time(tree, source, entries) <= time, (tree, source, entries, time))

    def test_all_schedules(self):
        for tree in TINY:
            for source in range(tree[0]):
                need = need_from(tree, source)
                for entries in schedules_until(tree, source, min(need + 2, 6)):
                    for time in range(need + 4):
                        self.check(tree, source, entries, time)

    def test_large(self):
        for tree in LARGE[::2] + MIXED_LARGE[::4]:
            for source in (0, tree[0] // 2):
                for entries in late_schedules(tree, source):
                    finish = finish_time(tree, source, entries)
                    for time in (need_from(tree, source), finish - 1, finish, finish + 1):
                        self.check(tree, source, entries, time)


class BestSourcesTest(unittest.TestCase):
    """(c)"""

    def check(self, tree, needs):
        best = best_sources(tree)
        self.assertEqual(best, tuple(k for k in range(tree[0]) if needs[k] == min(needs)))
        centre, others = source_star(tree)
        self.assertEqual(tuple(sorted((centre, *others))), best)
        self.assertGreaterEqual(len(others), 1)
        self.assertLessEqual(set(others), set(neighbours_of(tree, centre)))
        for vertex in range(tree[0]):
            nearest = min(all_distances(tree)[vertex][other] for other in best)
            self.assertEqual(needs[vertex], min(needs) + nearest)

    def test_all_small_plain_trees(self):
        for count in range(2, 7):
            for tree in all_plain_trees(count):
                self.check(tree, all_needs(tree))

    def test_small_by_all_orders_of_calls(self):
        for count in range(2, 6):
            for tree in all_plain_trees(count):
                self.check(tree, [least_finish(tree, source) for source in range(count)])

    def test_large(self):
        for tree in LARGE_PLAIN + mixed_trees(7, MOST, 120, 1, 61):
            self.check(tree, all_needs(tree))


class CollectingTest(unittest.TestCase):
    """(e)"""

    def test_all_collections(self):
        for tree in TINY:
            for target in range(tree[0]):
                need = need_from(tree, target)
                times = [right_collect_time(tree, target, value) for value in collections_until(tree, target, need)]
                self.assertEqual(min(times), need, (tree, target))

    def test_accepted_collections_and_schedules(self):
        for tree in TINY:
            for target in range(tree[0]):
                need = need_from(tree, target)
                for value in collections_until(tree, target, min(need + 1, 5)):
                    self.assertIs(is_collection(tree, target, value), True)
                    self.assertGreaterEqual(collect_time(tree, target, value), need)

    def test_the_reverse_of_a_best_schedule(self):
        for tree in [ONE, T, D, *MIXED_SMALL, *LARGE, *MIXED_LARGE]:
            for target in range(tree[0]):
                value = reverse_schedule(tree, target, best_schedule(tree, target))
                self.assertIs(is_collection(tree, target, value), True)
                self.assertEqual(collect_time(tree, target, value), need_from(tree, target))


class LargestTreesTest(unittest.TestCase):
    """(h)"""

    def test_no_plain_tree_is_larger(self):
        for tree in [tree for count in range(1, 7) for tree in all_plain_trees(count)]:
            self.assertLessEqual(tree[0], 2 ** min(all_needs(tree)))
        for tree in LARGE_PLAIN + mixed_trees(7, MOST, 200, 1, 62):
            self.assertLessEqual(tree[0], 2 ** min(all_needs(tree)))

    def test_full_trees_are_as_large(self):
        for rounds in range(5):
            tree = full_tree(rounds)
            self.assertIs(is_plain(tree), True)
            self.assertEqual((tree[0], need_from(tree, 0)), (2 ** rounds, rounds))
            if rounds < 4:
                for vertex in range(tree[0]):
                    self.assertGreater(need_from(add_leaf(tree, vertex, 1), 0), rounds)


class SameBranchTest(unittest.TestCase):
    """(d)"""

    def replace(self, tree, vertex, away, branch, end):
        """Return the tree with another branch, and the places of the vertices outside of it."""
        rest = cut_branch(tree, vertex, away)[1]
        outside = branch_of(tree, away, vertex)
        delay = delays_of(tree)[vertex, away]
        return join_trees(rest, outside.index(away), branch, end, delay), outside

    def test_a_branch_with_the_same_need(self):
        found = 0
        for tree in [T, D, *MIXED_SMALL[:20], *MIXED_LARGE[::8], *LARGE[:6]]:
            needs = all_needs(tree)
            for vertex, away in delays_of(tree):
                need = branch_need(tree, vertex, away)
                for branch in HUNG + [(2, ((0, 1, max(need, 1)),))]:
                    for end in range(branch[0]):
                        if need_from(branch, end) == need and len(branch_of(tree, away, vertex)) + branch[0] <= MOST:
                            other, outside = self.replace(tree, vertex, away, branch, end)
                            self.assertEqual(all_needs(other)[:len(outside)], tuple(needs[k] for k in outside))
                            found += 1
        self.assertGreater(found, 1000)


class OneMoreLeafTest(unittest.TestCase):
    """(f)"""

    def test_every_vertex(self):
        for tree in [ONE, T, D, *MIXED_SMALL, *LARGE, *MIXED_LARGE]:
            needs = all_needs(tree)
            for vertex in range(tree[0]):
                for delay in (1, 2, 5, 10 ** 9):
                    if tree[0] < MOST:
                        grown = all_needs(add_leaf(tree, vertex, delay))
                    else:
                        grown = all_needs(make_tree(tree[0] + 1, [*tree[1], (vertex, tree[0], delay)]))
                    for before, after in zip(needs, grown):
                        self.assertLessEqual(before, after)
                        self.assertLessEqual(after, before + delay)


class JoinedTreeTest(unittest.TestCase):
    """(g)"""

    def test_the_need_follows_from_three_numbers(self):
        for one in [ONE, T, D, *MIXED_SMALL[:30], *MIXED_LARGE[:20]]:
            for other in [ONE, T, D, *MIXED_SMALL[:4]]:
                if one[0] + other[0] > MOST:
                    continue
                for vertex in range(one[0]):
                    need = need_from(one, vertex)
                    spare = spare_of(one, vertex)
                    for end in range(other[0]):
                        for delay in (1, 2, 4):
                            joined = need_from(join_trees(one, vertex, other, end, delay), vertex)
                            self.assertEqual(joined, joined_need(need, spare, delay + need_from(other, end)))

    def test_a_key_at_the_spare_and_next_to_it(self):
        for one in [T, D, *MIXED_SMALL, *[tree for tree in MIXED_LARGE if tree[0] < MOST]]:
            for vertex in range(one[0]):
                need = need_from(one, vertex)
                spare = spare_of(one, vertex)
                for key in {spare - 1, spare, spare + 1, need - 1, need, need + 1, need + 2}:
                    if key > 0:
                        self.assertEqual(need_from(join_trees(one, vertex, ONE, 0, key), vertex),
                                         joined_need(need, spare, key))


class SameAnswersTest(unittest.TestCase):
    """(i)"""

    def check_same(self, book):
        fresh = Book(book.tree())
        fresh.start_at(book.source)
        read = Book.read(format_tree(book.tree()))
        for one, other in ((book, fresh), (book.copy(), fresh), (read, Book(book.tree()))):
            self.assertEqual(one.tree(), other.tree())
            self.assertEqual(one.needs(), other.needs())
            self.assertEqual(one.need, other.need)
            self.assertEqual(one.best, other.best)
            self.assertEqual(one.schedule(), other.schedule())
            self.assertEqual(list(one.walk()), list(other.walk()))

    def calls_for(self, source, tree):
        vertex, away, target = [source.randrange(tree[0]) for _ in range(3)]
        near = [b if a == vertex else a for a, b, _ in tree[1] if vertex in (a, b)]
        away = source.choice(near or [away])
        delay = source.choice([1, 1, 2, 3, 9])
        return [("grow", vertex, delay), ("prune", vertex), ("move", vertex, away, target),
                ("change_delay", vertex, away, delay)]

    def test_after_any_actions_and_undos(self):
        for seed, tree in enumerate([ONE, T, D, *MIXED_SMALL[:6], *LARGE[::4], *MIXED_LARGE[:4]]):
            source = random.Random(seed)
            for asked in (False, True):
                book = Book(tree)
                for _ in range(40):
                    action = source.choice(self.calls_for(source, book.tree()))
                    kind = source.randrange(8)
                    if kind == 0:
                        outcome_of(book.undo)
                    elif kind == 1:
                        book.start_at(source.randrange(book.tree()[0]))
                    elif kind == 2:
                        outcome_of(book.run, [action, source.choice(self.calls_for(source, book.tree()))])
                    else:
                        outcome_of(getattr(book, action[0]), *action[1:])
                    if asked:
                        self.check_same(book)
                self.check_same(book)

    def test_undo_returns_to_what_was_answered_before(self):
        for tree in [T, D, *MIXED_SMALL[:10], *MIXED_LARGE[:4]]:
            book = Book(tree)
            before = answers_of(book)
            for action in self.calls_for(random.Random(tree[0]), tree):
                if outcome_of(getattr(book, action[0]), *action[1:]) is None:
                    answers_of(book)
                    book.undo()
                    self.assertEqual(answers_of(book), before)


class SmallDelaysTest(unittest.TestCase):
    def test_best_schedules_with_many_delays(self):
        for tree in [vary_delays(tree) for tree in TINY]:
            for source in range(tree[0]):
                entries = best_schedule(tree, source)
                self.assertIs(is_schedule(tree, source, entries), True)
                self.assertEqual(finish_time(tree, source, entries), least_finish(tree, source))


if __name__ == "__main__":
    unittest.main()
