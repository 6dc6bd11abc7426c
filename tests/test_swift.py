"""Books that take only trees with a small least need."""

import inspect
import random
import unittest
from itertools import product

from tellrounds.books import Book, SwiftBook
from tellrounds.errors import TooSlow
from tellrounds.trees import find_fault
from tests.model import ACTIONS, KEPT, Model, answers_of, least_need, outcome_of, right_tree, state_of
from tests.samples import D, GREATEST, LARGE, MIXED_LARGE, MIXED_SMALL, MOST, T, heap_tree, path_tree, star_tree
from tests.values import FEW, JUNK

ONE = (1, ())
PAIR = (2, ((0, 1, 3),))
THIRTY = 10 ** 30 - 1
ALL = [ONE, PAIR, T, D, *MIXED_SMALL, *LARGE, *MIXED_LARGE[:10]]


class BoundTest(unittest.TestCase):
    def test_at_the_least_need_and_next_to_it(self):
        for tree in ALL:
            least = least_need(tree)
            self.assertEqual(SwiftBook(tree).tree(), tree)
            self.assertEqual(SwiftBook(tree, None).tree(), tree)
            for most in (least, least + 1, THIRTY):
                self.assertEqual(SwiftBook(tree, most).tree(), tree)
            for most in {0, 1, least - 1} - {least, -1}:
                if most < least:
                    with self.assertRaises(TooSlow) as caught:
                        SwiftBook(tree, most)
                    self.assertEqual(caught.exception.least, least)

    def test_zero(self):
        book = SwiftBook(ONE, 0)
        self.assertEqual(outcome_of(book.grow, 0, 1), ("TooSlow", (1,)))
        self.assertEqual(outcome_of(book.grow, 0, 7), ("TooSlow", (7,)))
        self.assertEqual(outcome_of(book.prune, 0), ("LastVertex", ()))
        self.assertEqual(state_of(book), state_of(Book(ONE)))
        self.assertEqual(outcome_of(SwiftBook, PAIR, 0), ("TooSlow", (3,)))

    def test_an_invalid_tree_comes_first(self):
        for value in JUNK:
            if find_fault(value) is not None:
                found = outcome_of(SwiftBook, value, 0)
                self.assertEqual(found, outcome_of(Book, value))
                self.assertEqual(found[0], "InvalidTree")

    def test_the_bound_by_name(self):
        self.assertEqual(str(inspect.signature(SwiftBook)), "(tree, most=None)")
        self.assertEqual(SwiftBook(T, most=3), SwiftBook(T, 3))

    def test_it_is_a_book(self):
        self.assertEqual(SwiftBook.__bases__, (Book,))
        self.assertIsInstance(SwiftBook(T, 3), Book)


class ActionsTest(unittest.TestCase):
    def check_call(self, book, model, name, *values):
        before = state_of(book)
        expected = outcome_of(model.do, name, *values)
        found = outcome_of(getattr(book, name), *values)
        self.assertEqual(found, expected, (model.tree, name, values))
        if expected is not None:
            self.assertEqual(state_of(book), before)
        self.assertEqual(state_of(book), (model.tree, model.source, tuple(model.actions), model.trees))
        return expected

    def test_every_nearly_right_call(self):
        pool = [0, 1, 2, 3, 4, 5, 9, GREATEST, -1, True, None]
        slow = 0
        for tree in [ONE, PAIR, T, D]:
            for most in (least_need(tree), least_need(tree) + 1, None):
                for name, many in ACTIONS.items():
                    for values in product(pool, repeat=many):
                        error = self.check_call(SwiftBook(tree, most), Model(tree, most), name, *values)
                        slow += error is not None and error[0] == "TooSlow"
        self.assertGreater(slow, 50)

    def test_after_all_other_errors(self):
        for name, values, error in (
            ("grow", (9, GREATEST), ("NoSuchVertex", (9,))),
            ("grow", (1, GREATEST + 1), ("InvalidDelay", (GREATEST + 1,))),
            ("change_delay", (0, 2, GREATEST), ("NoSuchEdge", (0, 2))),
            ("change_delay", (0, 1, 0), ("InvalidDelay", (0,))),
            ("move", (1, 3, 9), ("NoSuchVertex", (9,))), ("move", (3, 1, 4), ("InBranch", (4,))),
            ("prune", (1,), ("NotLeaf", (1,))),
        ):
            self.assertEqual(outcome_of(getattr(SwiftBook(T, 3), name), *values), error)
        full = heap_tree(MOST)
        book = SwiftBook(full, least_need(full))
        self.assertEqual(outcome_of(book.grow, 0, GREATEST), ("TooMany", ()))
        book = SwiftBook(T, 3)
        for _ in range(KEPT):
            book.change_delay(0, 1, 1)
        self.assertEqual(outcome_of(book.grow, 1, GREATEST), ("TooManyActions", ()))

    def test_each_action_that_can_be_too_slow(self):
        for tree, most, name, values, least in (
            (T, 3, "grow", (1, 1), 4), (T, 3, "change_delay", (1, 3, 3), 4), (T, 3, "grow", (0, GREATEST), GREATEST),
            (path_tree(range(5)), 3, "grow", (4, 3), 4), (path_tree(range(5)), 3, "change_delay", (2, 1, 7), 8),
            (star_tree(5, 0), 4, "grow", (0, 1), 5), (path_tree(range(4)), 2, "move", (3, 2, 1), 3),
        ):
            book = SwiftBook(tree, most)
            self.assertEqual(least_need(right_tree(tree, name, *values)), least)
            self.assertEqual(outcome_of(getattr(book, name), *values), ("TooSlow", (least,)))
            self.assertEqual(state_of(book), state_of(Book(tree)))
            self.assertIsNone(outcome_of(getattr(SwiftBook(tree, least), name), *values))
            self.assertEqual(outcome_of(getattr(SwiftBook(tree, least - 1), name), *values), ("TooSlow", (least,)))

    def test_the_need_from_the_source_does_not_matter(self):
        book = SwiftBook(T, 3)
        book.start_at(4)
        self.assertEqual(book.need, 4)
        book.change_delay(0, 1, 2)
        self.assertGreater(book.need, 3)

    def test_random_calls(self):
        slow = 0
        for seed, tree in enumerate([T, D, *MIXED_SMALL[:8], *MIXED_LARGE[:3]]):
            source = random.Random(seed)
            most = least_need(tree) + seed % 3
            book = SwiftBook(tree, most)
            model = Model(tree, most)
            for _ in range(120):
                name = source.choice(["grow", "grow", "move", "move", "change_delay", "prune", "undo", "start_at"])
                many = {"undo": 0, "start_at": 1, **ACTIONS}[name]
                values = [source.randrange(min(model.tree[0], 4) + 1) for _ in range(many)]
                error = self.check_call(book, model, name, *values)
                slow += error is not None and error[0] == "TooSlow"
                self.assertLessEqual(min(book.needs()), most)
        self.assertGreater(slow, 50)


class BatchTest(unittest.TestCase):
    def test_a_tree_in_between_that_is_too_slow(self):
        actions = [("change_delay", 0, 1, 1), ("grow", 1, 1), ("prune", 0)]
        book = SwiftBook(T, 3)
        seen = []

        def run(batch):
            return book.run(batch, on_step=lambda same: seen.append(len(same)))

        self.assertEqual(outcome_of(run, actions), ("BatchFailed", (1,)))
        self.assertEqual(seen, [1])
        self.assertEqual(state_of(book), state_of(Book(T)))
        self.assertEqual(book.log(), (("begin", 3), ("end", 0)))
        free = SwiftBook(T)
        free.run(actions)
        self.assertLessEqual(least_need(free.tree()), 3)
        self.assertIsNone(outcome_of(book.run, [actions[0], actions[2], actions[1]]))

    def test_at_each_index(self):
        for at in range(20):
            actions = [("change_delay", 0, 1, 1)] * 20
            actions[at] = ("grow", 1, GREATEST)
            self.assertEqual(outcome_of(SwiftBook(T, 3).run, actions), ("BatchFailed", (at,)))
            self.assertIsNone(outcome_of(SwiftBook(T).run, actions))


class UndoTest(unittest.TestCase):
    def test_undo_never_raises_too_slow(self):
        for tree in (T, star_tree(6, 0), path_tree(range(9))):
            least = least_need(tree)
            book = SwiftBook(tree, least)
            done = 0
            for vertex in range(tree[0] - 1, -1, -1):
                done += outcome_of(book.prune, vertex) is None
            self.assertGreater(done, 3)
            for _ in range(done):
                self.assertIsNone(book.undo())
            self.assertEqual(book.tree(), tree)
            self.assertEqual(outcome_of(book.undo), ("NothingToUndo", ()))


class CopyTest(unittest.TestCase):
    def test_the_same_bound(self):
        for most in (3, 4, None):
            book = SwiftBook(T, most)
            book.change_delay(3, 4, 1)
            book.start_at(4)
            twin = book.copy()
            self.assertIs(type(twin), SwiftBook)
            self.assertEqual(twin, book)
            self.assertEqual(answers_of(twin), answers_of(book))
            self.assertEqual(outcome_of(twin.grow, 1, 9), ("TooSlow", (9,)) if most else None)
            self.assertEqual(book.tree(), T)
            self.assertEqual(twin.copy().copy(), twin)

    def test_within_a_batch(self):
        twins = []
        book = SwiftBook(T, 3)
        book.run([("prune", 0), ("grow", 0, 1)], on_step=lambda same: twins.append(same.copy()))
        self.assertEqual([len(twin) for twin in twins], [1, 2])
        for twin in twins:
            self.assertEqual(outcome_of(twin.grow, 0, 9), ("TooSlow", (9,)))


class ClassMethodsTest(unittest.TestCase):
    def test_read_and_single_have_no_bound(self):
        for book in (SwiftBook.read("vertices 2\nedge 0 1 9\n"), SwiftBook.single(), SwiftBook(T, 3).single()):
            self.assertIs(type(book), SwiftBook)
            self.assertIsNone(outcome_of(book.grow, 0, GREATEST))
        self.assertEqual(SwiftBook.single(), SwiftBook(ONE))
        self.assertEqual(SwiftBook.read("vertices 1\n"), SwiftBook(ONE, None))
        self.assertEqual(SwiftBook.size_of("move"), 3)


class EqualityTest(unittest.TestCase):
    def check_equal(self, one, other, equal):
        self.assertIs(one == other, equal)
        self.assertIs(other == one, equal)
        self.assertIs(one != other, not equal)

    def test_bounds(self):
        bounds = [None, 3, 4, THIRTY]
        for one in bounds:
            self.check_equal(SwiftBook(T, one), Book(T), False)
            for other in bounds:
                self.check_equal(SwiftBook(T, one), SwiftBook(T, other), one == other)
        self.check_equal(SwiftBook(ONE, 0), SwiftBook(ONE, None), False)
        self.check_equal(SwiftBook(ONE, 0), SwiftBook(ONE, 0), True)

    def test_trees_and_sources(self):
        self.check_equal(SwiftBook(T, 9), SwiftBook(D, 9), False)
        book = SwiftBook(T, 9)
        book.start_at(1)
        self.check_equal(book, SwiftBook(T, 9), False)
        other = SwiftBook(T, 9)
        other.start_at(1)
        self.check_equal(book, other, True)
        plain = Book(T)
        plain.start_at(1)
        self.check_equal(book, plain, False)

    def test_nothing_else(self):
        for value in FEW:
            self.check_equal(SwiftBook(ONE, 0), value, False)

    def test_text_and_len(self):
        book = SwiftBook(T, 3)
        book.prune(0)
        self.assertEqual(str(book), "4 vertices, need 2 from 0, 1 actions")
        self.assertEqual(len(book), 1)


if __name__ == "__main__":
    unittest.main()
