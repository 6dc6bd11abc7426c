"""No function takes noticeably long on a tree with the greatest number of vertices."""

import time
import unittest

from tellrounds import changes, collecting, counting, growth, needs, plains, schedules, texts, trees, witnesses
from tellrounds.books import Book, SwiftBook
from tellrounds.bounds import BATCH, COUNTED, COUNT_TIME
from tellrounds.consoles import Console
from tests.model import answers_of
from tests.samples import (
    LARGE, LARGE_PLAIN, MIXED_LARGE, MOST, all_plain_trees, caterpillar, heap_tree, mixed_trees, path_tree, star_tree,
)

# Far more than any of these calls takes, so that a busy machine does not matter.
SECONDS = 0.5


def calls_for(tree):
    """Return (name, function without arguments) for calls of each function."""
    last = tree[0] - 1
    away = trees.neighbours_of(tree, last)[0]
    best = schedules.best_schedule(tree, last)
    witness = witnesses.find_witness(tree, last)
    collection = collecting.reverse_schedule(tree, last, best)
    small = (1, ())
    branch, rest = growth.cut_branch(tree, last, away)
    return [
        ("find_fault", lambda: trees.find_fault(tree)),
        ("is_plain", lambda: trees.is_plain(tree)),
        ("neighbours_of", lambda: trees.neighbours_of(tree, last)),
        ("path_between", lambda: trees.path_between(tree, 0, last)),
        ("distance_between", lambda: trees.distance_between(tree, 0, last)),
        ("branch_of", lambda: trees.branch_of(tree, last, away)),
        ("branch_need", lambda: needs.branch_need(tree, away, last)),
        ("need_from", lambda: needs.need_from(tree, last)),
        ("all_needs", lambda: needs.all_needs(tree)),
        ("call_order", lambda: needs.call_order(tree, last, away)),
        ("best_sources", lambda: needs.best_sources(tree)),
        ("select_sources", lambda: needs.select_sources(tree, least=1, most=9, degree=1)),
        ("is_schedule", lambda: schedules.is_schedule(tree, last, best)),
        ("arrivals_of", lambda: schedules.arrivals_of(tree, last, best)),
        ("finish_time", lambda: schedules.finish_time(tree, last, best)),
        ("best_schedule", lambda: schedules.best_schedule(tree, last)),
        ("latest_arrivals", lambda: schedules.latest_arrivals(tree, last, 10 ** 30 - 1)),
        ("walk_calls", lambda: list(schedules.walk_calls(tree, last))),
        ("witness_value", lambda: witnesses.witness_value(tree, last, witness)),
        ("find_witness", lambda: witnesses.find_witness(tree, last)),
        ("check_certificate", lambda: witnesses.check_certificate(tree, last, (best, witness))),
        ("add_leaf", lambda: growth.add_leaf(rest, 0, 1)),
        ("drop_leaf", lambda: growth.drop_leaf(tree, leaf_of(tree))),
        ("spare_of", lambda: growth.spare_of(tree, last)),
        ("free_vertices", lambda: growth.free_vertices(tree, last, 1)),
        ("join_trees", lambda: growth.join_trees(rest, 0, branch, 0, 1)),
        ("join_all", lambda: growth.join_all(*[small] * MOST)),
        ("cut_branch", lambda: growth.cut_branch(tree, last, away)),
        ("is_collection", lambda: collecting.is_collection(tree, last, collection)),
        ("collect_time", lambda: collecting.collect_time(tree, last, collection)),
        ("reverse_schedule", lambda: collecting.reverse_schedule(tree, last, best)),
        ("set_delay", lambda: changes.set_delay(tree, last, away, 7)),
        ("move_branch", lambda: changes.move_branch(tree, last, away, away)),
        ("relabel_tree", lambda: changes.relabel_tree(tree, tuple(range(last, -1, -1)))),
        ("stretch_tree", lambda: changes.stretch_tree(tree, 1)),
        ("format_schedule", lambda: texts.format_schedule(best)),
        ("format_tree", lambda: texts.format_tree(tree)),
        ("parse_schedule", lambda: texts.parse_schedule(texts.format_schedule(best))),
        ("parse_tree", lambda: texts.parse_tree(texts.format_tree(tree))),
    ]


def leaf_of(tree):
    return [k for k in range(tree[0]) if len(trees.neighbours_of(tree, k)) == 1][0]


class SpeedTest(unittest.TestCase):
    def test_each_function(self):
        for tree in LARGE + [tree for tree in MIXED_LARGE if tree[0] == MOST]:
            for name, call in calls_for(tree):
                before = time.process_time()
                call()
                self.assertLess(time.process_time() - before, SECONDS, (name, tree))

    def test_counting_at_its_limits(self):
        shapes = [path_tree(range(COUNTED)), star_tree(COUNTED, 4), heap_tree(COUNTED), caterpillar(COUNTED)]
        for tree in shapes + mixed_trees(COUNTED, COUNTED, 20, 2, 51):
            for source in range(COUNTED):
                before = time.process_time()
                counting.count_schedules(tree, source, COUNT_TIME)
                self.assertLess(time.process_time() - before, SECONDS, (tree, source))

    def test_plain_trees(self):
        for tree in LARGE_PLAIN + all_plain_trees(5):
            before = time.process_time()
            plains.source_star(tree)
            plains.full_tree(4)
            self.assertLess(time.process_time() - before, SECONDS, tree)

    def test_consoles(self):
        for tree in LARGE:
            console = Console(Book(tree))
            for line in ("delay 0 1 5", "undo", "start 15", "need", "source", "needs", "best", "schedule", "free 1",
                         "latest 9999999999999", "grow 0 1", "prune 15", "move 0 1 2", "x"):
                before = time.process_time()
                console.execute(line)
                console.transcript()
                self.assertLess(time.process_time() - before, SECONDS, (tree, line))

    def test_long_texts(self):
        for text in ("7" * 4000 + " -", "1 " * 2000 + "-", "-" + " 123456789" * 400):
            before = time.process_time()
            self.assertEqual(texts.format_schedule(texts.parse_schedule(text)), text)
            self.assertLess(time.process_time() - before, SECONDS)

    def test_sixty_actions_each_followed_by_every_query(self):
        for tree in LARGE[::2]:
            for book in (Book(tree), SwiftBook(tree, 10 ** 20)):
                one, other, _ = tree[1][-1]
                slowest = 0
                for k in range(Book.LIMIT):
                    before = time.process_time()
                    book.change_delay(one, other, k + 1)
                    book.start_at(k % tree[0])
                    answers_of(book)
                    slowest = max(slowest, time.process_time() - before)
                self.assertLess(slowest, SECONDS, tree)

    def test_batches(self):
        for tree in LARGE[::2]:
            one, other, _ = tree[1][-1]
            book = SwiftBook(tree, 10 ** 20)
            before = time.process_time()
            for _ in range(3):
                book.run([("change_delay", one, other, 3)] * BATCH, on_step=lambda same: same.needs())
            self.assertLess(time.process_time() - before, 2 * SECONDS, tree)


if __name__ == "__main__":
    unittest.main()
