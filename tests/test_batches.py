import copy
import random
import unittest

from tellrounds.books import Book, SwiftBook
from tellrounds.errors import BatchFailed, Busy, InvalidBatch, TooMany
from tests.model import ACTIONS, KEPT, Model, Wrong, answers_of, outcome_of, state_of
from tests.samples import D, LARGE, MIXED_SMALL, MOST, T, heap_tree
from tests.values import JUNK, changed

ONE = (1, ())
BATCH = 20
RIGHT = [("grow", 0, 1), ("change_delay", 0, 1, 3), ("move", 2, 1, 0), ("prune", 4)]
ROWS = 10


class Stop(Exception):
    """An error of the caller's own."""


def is_right_batch(value):
    """Return whether a value is a batch, by the words of the document."""
    if type(value) not in (list, tuple) or len(value) > BATCH:
        return False
    for action in value:
        if type(action) is not tuple or not action or type(action[0]) is not str:
            return False
        if action[0] not in ACTIONS or len(action) != 1 + ACTIONS[action[0]]:
            return False
    return True


def used_book(tree=T):
    """Return a book with actions, a source and a log."""
    book = Book(tree)
    book.grow(0, 2)
    book.run([("grow", 1, 2), ("prune", tree[0])])
    book.start_at(tree[0])
    return book


class RunTest(unittest.TestCase):
    def test_the_same_as_one_by_one(self):
        for tree in [T, *MIXED_SMALL[:30]]:
            for many in range(BATCH + 1):
                for form in (list, tuple):
                    actions = [("grow", k % tree[0], k + 1) if k % 2 == 0 else ("prune", tree[0]) for k in range(many)]
                    book = Book(tree)
                    self.assertIsNone(book.run(form(actions)))
                    other = Book(tree)
                    for name, *values in actions:
                        getattr(other, name)(*values)
                    self.assertEqual(state_of(book), state_of(other))
                    self.assertEqual(len(book), many)
                    self.assertEqual(book.actions(), tuple(actions))
                    self.assertEqual(book.log(), (("begin", many), ("end", many)))

    def test_each_action(self):
        book = Book(T)
        book.run(RIGHT)
        self.assertEqual(book.tree(), (5, ((0, 1, 3), (0, 2, 1), (0, 4, 1), (1, 3, 1))))
        self.assertEqual(book.actions(), tuple(RIGHT))
        book.undo()
        self.assertEqual((len(book), book.actions()), (3, tuple(RIGHT[:3])))
        self.assertEqual(book.state_at(1), (6, ((0, 1, 1), (0, 5, 1), (1, 2, 1), (1, 3, 1), (3, 4, 1))))

    def test_many_random_batches(self):
        source = random.Random(5)
        for tree in [ONE, T, D, *MIXED_SMALL[:10], *LARGE[:3]]:
            book = Book(tree)
            model = Model(tree)
            for _ in range(40):
                actions = []
                for _ in range(source.choice([0, 1, 1, 2, 3, 5])):
                    name = source.choice(["grow", "grow", "prune", "move", "change_delay"])
                    values = [source.randrange(-1 if source.random() < 0.1 else 0, min(model.tree[0], 3) + 1)
                              for _ in range(ACTIONS[name])]
                    actions.append((name, *values))
                before = state_of(book)
                expected = outcome_of(model.run, actions)
                found = outcome_of(book.run, actions)
                self.assertEqual(found, expected)
                if expected is not None:
                    self.assertEqual(state_of(book), before)
                self.assertEqual(book.log()[-2:],
                                 (("begin", len(actions)), ("end", 0 if expected else len(actions))))
                self.assertEqual(state_of(book), (model.tree, model.source, tuple(model.actions), model.trees))
                outcome_of(model.start_at, model.tree[0] - 1)
                outcome_of(book.start_at, model.tree[0] - 1)

    def test_the_index_of_the_failed_action(self):
        wrong = [("grow", 99, 1), ("grow", 0, 0), ("grow", True, 1), ("prune", 1), ("prune", None), ("move", 3, 1, 4),
                 ("move", 0, 2, 1), ("change_delay", 0, 2, 1), ("change_delay", 0, 1, "1"), ("grow", [0], {}),
                 ("prune", -1), ("move", 0, 1, (0,))]
        for action in wrong:
            for at in range(BATCH):
                actions = [("change_delay", 0, 1, k + 2) for k in range(BATCH)]
                actions[at] = action
                book = used_book()
                before = answers_of(book)
                self.assertEqual(outcome_of(book.run, actions), ("BatchFailed", (at,)))
                self.assertEqual(answers_of(book), before)
                self.assertEqual(book.log()[2:], (("begin", BATCH), ("end", 0)))

    def test_each_error_of_an_action(self):
        for tree, action in ((ONE, ("prune", 0)), (heap_tree(MOST), ("grow", 0, 1)), (T, ("prune", 3)),
                             (T, ("grow", 5, 1)), (T, ("move", 1, 0, 3)), (T, ("move", 2, 0, 3)),
                             (T, ("grow", 0, 0))):
            book = Book(tree)
            with self.assertRaises(BatchFailed) as caught:
                book.run([action])
            self.assertEqual(caught.exception.index, 0)
            self.assertEqual(state_of(book), state_of(Book(tree)))

    def test_the_source_of_a_failed_batch(self):
        book = Book(T)
        book.start_at(4)
        # The source is 0 after the first action, and 4 again after the batch.
        seen = []
        with self.assertRaises(BatchFailed):
            book.run([("prune", 0), ("grow", 0, 1), ("grow", 9, 9)], on_step=lambda same: seen.append(same.source))
        self.assertEqual(seen, [0, 0])
        self.assertEqual((book.source, book.tree()), (4, T))
        book.run([("prune", 0), ("grow", 0, 1)])
        self.assertEqual(book.source, 0)

    def test_the_batch_stays(self):
        for value in JUNK + [RIGHT, [("grow", 0, [1])], [("grow", {"a": [1]}, 1)]]:
            before = copy.deepcopy(value)
            outcome_of(Book(T).run, value)
            self.assertEqual(value, before)


class InvalidBatchTest(unittest.TestCase):
    def check(self, value):
        book = Book(T)
        error = outcome_of(book.run, value)
        if is_right_batch(value):
            self.assertIn(error, [None] + [("BatchFailed", (k,)) for k in range(BATCH)])
            self.assertEqual(len(book.log()), 2)
        else:
            self.assertEqual(error, ("InvalidBatch", ()), value)
            self.assertEqual(book.log(), ())
        if error is not None:
            self.assertEqual(state_of(book), state_of(Book(T)))

    def test_values_of_every_kind(self):
        for value in JUNK:
            self.check(value)
            self.check([value])
            self.check((value,))
            self.check([("grow", 0, 1), value])
            self.check([(value,)])
            self.check([(value, 0, 1)])
            self.check([("grow", value, value)])

    def test_one_part_changed(self):
        for value in changed(tuple(RIGHT), JUNK):
            self.check(value)
            self.check(list(value) if type(value) is tuple else value)

    def test_names_and_numbers_of_arguments(self):
        names = ["undo", "run", "start_at", "", "GROW", "grow ", "tree", "copy", "log", "delay", "state_at", "read",
                 *ACTIONS, True, None, 0, ("grow",), b"grow"]
        for name in names:
            for many in range(6):
                self.check([(name, *[1] * many)])
                self.check([[name, *[1] * many]])
                self.check([("grow", 0, 1), (name, *[1] * many)])

    def test_twenty_actions_and_one_more(self):
        for action in (("grow", 9, 9), ("change_delay", 0, 1, 4), ("prune", 0)):
            for many in (19, 20, 21, 22, 1000):
                self.check([action] * many)
                self.check((action,) * many)
        book = Book(T)
        self.assertIsNone(book.run([("change_delay", 0, 1, 4)] * 20))
        self.assertEqual(outcome_of(book.run, [("change_delay", 0, 1, 4)] * 21), ("InvalidBatch", ()))
        self.assertEqual(len(book), 20)

    def test_an_invalid_action_behind_a_failing_one(self):
        self.assertEqual(outcome_of(Book(T).run, [("grow", 9, 9), ("grow", 0)]), ("InvalidBatch", ()))
        self.assertEqual(outcome_of(Book(T).run, [("grow", 9, 0), ["grow", 0, 1]]), ("InvalidBatch", ()))

    def test_no_step_of_an_invalid_batch(self):
        seen = []
        with self.assertRaises(InvalidBatch):
            Book(T).run([("grow", 0, 1), ("grow", 0)], on_step=seen.append)
        self.assertEqual(seen, [])

    def test_a_dict_or_a_generator_is_no_batch(self):
        for value in ({}, {"grow": 1}, "", b"", range(0), iter([])):
            self.assertEqual(outcome_of(Book(T).run, value), ("InvalidBatch", ()))


class EmptyBatchTest(unittest.TestCase):
    def test_empty(self):
        for batch in ([], ()):
            book = Book(T)
            self.assertIsNone(book.run(batch))
            self.assertIsNone(book.run(batch, on_step=lambda same: 1 // 0))
            self.assertEqual(state_of(book), state_of(Book(T)))
            self.assertEqual(book.log(), (("begin", 0), ("end", 0)) * 2)

    def test_on_a_full_book(self):
        book = Book(T)
        for _ in range(3):
            book.run([("change_delay", 0, 1, 4)] * 20)
        self.assertEqual(len(book), KEPT)
        self.assertIsNone(book.run([]))
        self.assertEqual(book.log()[-2:], (("begin", 0), ("end", 0)))


class FullBookTest(unittest.TestCase):
    def test_within_a_batch(self):
        for kept in range(40, 61):
            for many in (1, 2, 19, 20):
                book = Book(T)
                for k in range(kept):
                    book.change_delay(0, 1, k + 1)
                before = state_of(book)
                actions = [("change_delay", 1, 2, 9)] * many
                if kept + many <= KEPT:
                    self.assertIsNone(book.run(actions))
                    self.assertEqual(len(book), kept + many)
                else:
                    self.assertEqual(outcome_of(book.run, actions), ("BatchFailed", (KEPT - kept,)))
                    self.assertEqual(state_of(book), before)
                    self.assertEqual(book.log(), (("begin", many), ("end", 0)))

    def test_after_undo(self):
        book = Book(T)
        for _ in range(3):
            book.run([("change_delay", 0, 1, 4)] * 20)
        book.undo()
        self.assertEqual(outcome_of(book.run, [("grow", 0, 1), ("grow", 0, 1)]), ("BatchFailed", (1,)))
        self.assertEqual(outcome_of(book.run, [("grow", 0, 0), ("grow", 0, 1)]), ("BatchFailed", (0,)))
        self.assertIsNone(book.run([("grow", 0, 1)]))
        self.assertEqual(outcome_of(book.run, [("grow", 0, 1)]), ("BatchFailed", (0,)))


class OnStepTest(unittest.TestCase):
    def test_after_each_action_with_the_same_book(self):
        book = Book(T)
        book.grow(0, 9)
        seen = []

        def look(same):
            self.assertIs(same, book)
            seen.append(answers_of(same))
            return False

        book.run(RIGHT, on_step=look)
        other = Book(T)
        other.grow(0, 9)
        expected = []
        for name, *values in RIGHT:
            getattr(other, name)(*values)
            expected.append(answers_of(other))
        self.assertEqual(seen, expected)
        self.assertEqual(state_of(book), state_of(other))

    def test_its_result_has_no_effect(self):
        for result in (None, True, False, 0, "stop", Stop(), StopIteration()):
            book = Book(T)
            book.run(RIGHT, on_step=lambda same: result)
            self.assertEqual(len(book), 4)

    def test_not_after_the_action_that_fails(self):
        seen = []
        book = Book(T)
        with self.assertRaises(BatchFailed):
            book.run([("grow", 0, 1), ("grow", 0, 1), ("grow", 0, 0)], on_step=lambda same: seen.append(len(same)))
        self.assertEqual(seen, [1, 2])

    def test_an_exception_propagates(self):
        for error in (Stop("x"), BatchFailed(7), InvalidBatch(), Busy(), TooMany(), KeyError(3), StopIteration(),
                      KeyboardInterrupt(), SystemExit(), GeneratorExit(), ZeroDivisionError()):
            for at in range(1, 5):
                book = used_book()
                before = answers_of(book)

                def fail(same):
                    if len(same) == 3 + at:
                        raise error

                with self.assertRaises(type(error)) as caught:
                    book.run(RIGHT, on_step=fail)
                self.assertIs(caught.exception, error)
                self.assertEqual(answers_of(book), before)
                self.assertEqual(book.log(), (("begin", 2), ("end", 2), ("begin", 4), ("end", 0)))
                # The book is not busy any more.
                self.assertIsNone(book.grow(0, 1))

    def test_the_source_before_an_exception(self):
        book = Book(T)
        book.start_at(4)

        def fail(same):
            self.assertEqual(same.source, 0)
            raise Stop

        with self.assertRaises(Stop):
            book.run([("prune", 0)], on_step=fail)
        self.assertEqual((book.source, book.tree(), len(book)), (4, T, 0))

    def test_not_busy_after_a_failed_batch(self):
        book = Book(T)
        self.assertEqual(outcome_of(book.run, [("grow", 9, 9)]), ("BatchFailed", (0,)))
        self.assertEqual(outcome_of(book.run, [("grow", 0, 1), 5]), ("InvalidBatch", ()))
        self.assertIsNone(book.start_at(1))
        self.assertIsNone(book.run([("grow", 0, 1)]))
        self.assertIsNone(book.undo())

    def test_a_list_that_is_changed_during_the_run(self):
        for change in (list.clear, lambda rows: rows.append(("grow", 0, 1)), lambda rows: rows.insert(0, None),
                       lambda rows: rows.__setitem__(slice(None), [("prune", 0)] * 4), list.reverse):
            batch = list(RIGHT)
            book = Book(T)
            book.run(batch, on_step=lambda same: change(batch))
            self.assertEqual(book.actions(), tuple(RIGHT))

    def test_none(self):
        book = Book(T)
        book.run(RIGHT, on_step=None)
        self.assertEqual(len(book), 4)


class BusyTest(unittest.TestCase):
    def check_busy(self, book):
        before = answers_of(book), book.log()
        for values in ((0, 1, 1), (None, None, None), ([], "x", {}), (99, 99, 99), (True, 0, 0)):
            for name, many in ACTIONS.items():
                self.assertEqual(outcome_of(getattr(book, name), *values[:many]), ("Busy", ()))
            self.assertEqual(outcome_of(book.start_at, values[0]), ("Busy", ()))
            self.assertEqual(outcome_of(book.run, values[0]), ("Busy", ()))
        self.assertEqual(outcome_of(book.undo), ("Busy", ()))
        for batch in ([], [("grow", 0, 1)], [("grow", 9, 9)], [5], 5):
            self.assertEqual(outcome_of(book.run, batch), ("Busy", ()))
        self.assertEqual((answers_of(book), book.log()), before)

    def test_every_call_of_this_book(self):
        for batch in (RIGHT, [("grow", 0, 1)], [("prune", k) for k in (4, 3, 2, 1)]):
            for book in (Book(T), SwiftBook(T), SwiftBook(T, 99)):
                steps = []

                def look(same):
                    self.check_busy(same)
                    steps.append(len(same))

                book.run(batch, on_step=look)
                self.assertEqual(steps, list(range(1, len(batch) + 1)))
                self.assertEqual(book.log(), (("begin", len(batch)), ("end", len(batch))))

    def test_busy_comes_before_too_many_actions_and_nothing_to_undo(self):
        book = Book(T)
        for k in range(KEPT - 1):
            book.change_delay(0, 1, k + 1)
        book.run([("grow", 0, 1)], on_step=self.check_busy)
        self.assertEqual(len(book), KEPT)

    def test_a_busy_error_that_is_not_caught_ends_the_batch(self):
        book = Book(T)
        with self.assertRaises(Busy):
            book.run(RIGHT, on_step=lambda same: same.grow(0, 1))
        self.assertEqual((book.tree(), len(book)), (T, 0))
        self.assertEqual(book.log(), (("begin", 4), ("end", 0)))

    def test_another_book_is_not_busy(self):
        book = Book(T)
        other = Book(D)

        def work(same):
            other.grow(0, 1)
            other.run([("prune", other.tree()[0] - 1)], on_step=self.check_busy)
            other.start_at(1)

        book.run(RIGHT, on_step=work)
        self.assertEqual(other.tree(), D)
        self.assertEqual(len(other), 8)
        self.assertEqual(book.actions(), tuple(RIGHT))

    def test_a_copy_is_not_busy(self):
        book = used_book()
        copies = []

        def take(same):
            twin = same.copy()
            self.assertEqual(twin, same)
            self.assertEqual(answers_of(twin), answers_of(same))
            self.assertEqual(twin.log(), ())
            copies.append(twin)
            if len(copies) == 2:
                twin.undo()
                twin.undo()
                twin.grow(0, 7)
                twin.run([("grow", 0, 8)])
                twin.start_at(1)

        before = state_of(book)
        with self.assertRaises(BatchFailed):
            book.run([*RIGHT, ("grow", 99, 1)], on_step=take)
        self.assertEqual(state_of(book), before)
        self.assertEqual([len(twin) for twin in copies], [4, 5 - 2 + 2, 6, 7])
        self.assertEqual(copies[0].actions()[3:], tuple(RIGHT[:1]))
        self.assertEqual(copies[1].actions()[3:], (("grow", 0, 7), ("grow", 0, 8)))
        self.assertEqual(copies[3].actions()[3:], tuple(RIGHT))
        for twin in copies:
            twin.grow(0, 1)

    def test_copies_of_a_batch_that_an_exception_ends(self):
        book = Book(T)
        copies = []

        def fail(same):
            copies.append(same.copy())
            raise Stop

        with self.assertRaises(Stop):
            book.run(RIGHT, on_step=fail)
        self.assertEqual(copies[0].actions(), tuple(RIGHT[:1]))
        self.assertEqual(len(book), 0)


class LogTest(unittest.TestCase):
    def test_rows(self):
        book = Book(T)
        rows = []
        for k in range(15):
            kind = k % 4
            if kind == 0:
                book.run([("change_delay", 0, 1, 2)] * (k % 3))
                rows += [("begin", k % 3), ("end", k % 3)]
            elif kind == 1:
                outcome_of(book.run, [("change_delay", 0, 1, 2), ("grow", 9, 9)])
                rows += [("begin", 2), ("end", 0)]
            elif kind == 2:
                outcome_of(book.run, [("grow", 0)])
                outcome_of(book.run, None)
            else:
                with self.assertRaises(Stop):
                    book.run([("prune", 0), ("prune", 0)], on_step=self.stop)
                rows += [("begin", 2), ("end", 0)]
            self.assertEqual(book.log(), tuple(rows[-ROWS:]))
            self.assertEqual(book.log(), book.log())

    def stop(self, same):
        raise Stop

    def test_nothing_else_adds_or_removes_rows(self):
        book = Book(T)
        book.run([("grow", 0, 1)])
        rows = book.log()
        book.grow(0, 1)
        book.undo()
        book.undo()
        outcome_of(book.undo)
        outcome_of(book.grow, 9, 9)
        book.start_at(2)
        answers_of(book)
        twin = book.copy()
        twin.run([])
        self.assertEqual(book.log(), rows)
        self.assertEqual(rows, (("begin", 1), ("end", 1)))

    def test_the_row_of_the_beginning(self):
        book = Book(T)
        seen = []
        for many in range(1, 9):
            before = book.log()
            book.run([("change_delay", 0, 1, 2)] * many, on_step=lambda same: seen.append(same.log()))
            self.assertEqual(seen, [(*before, ("begin", many))[-ROWS:]] * many)
            self.assertEqual(book.log(), (*before, ("begin", many), ("end", many))[-ROWS:])
            seen.clear()

    def test_the_last_rows_only(self):
        book = Book(T)
        for k in range(8):
            book.run([("change_delay", 0, 1, 2)] * k)
        expected = []
        for k in range(3, 8):
            expected += [("begin", k), ("end", k)]
        self.assertEqual(book.log(), tuple(expected))
        self.assertIs(type(book.log()), tuple)
        self.assertIs(type(book.log()[0]), tuple)

    def test_what_was_returned_stays(self):
        book = Book(T)
        book.run([])
        rows = book.log()
        book.run([("grow", 0, 1)])
        self.assertEqual(rows, (("begin", 0), ("end", 0)))


class ModelTest(unittest.TestCase):
    def test_the_model_itself(self):
        model = Model(T)
        with self.assertRaises(Wrong):
            model.run([("prune", 0), ("prune", 0), ("prune", 9)])
        self.assertEqual((model.tree, model.actions), (T, []))


if __name__ == "__main__":
    unittest.main()
