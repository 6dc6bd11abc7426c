import copy
import inspect
import random
import unittest
from itertools import product

from tellrounds.books import Book, SwiftBook
from tellrounds.errors import Busy, InvalidTree, ParseError, TooManyActions
from tellrounds.needs import all_needs, best_sources, need_from
from tellrounds.schedules import best_schedule, walk_calls
from tellrounds.texts import format_tree, parse_tree
from tellrounds.trees import find_fault
from tests.model import ACTIONS, KEPT, Model, answers_of, outcome_of, state_of
from tests.samples import (
    D, GREATEST, LARGE, MIXED_LARGE, MIXED_SMALL, MOST, T, heap_tree, path_tree, star_tree, vary_delays,
)
from tests.values import FEW, JUNK, changed

ONE = (1, ())
PAIR = (2, ((0, 1, 3),))
FEW_TREES = [ONE, PAIR, T, D, star_tree(MOST, 7), vary_delays(path_tree(range(MOST)))]
ODD = [None, True, False, -1, 10 ** 30 - 1, "0", (), [0], {"0": 0}, (0,)]


def full_book(tree):
    """Return a book that keeps as many actions as it can."""
    book = Book(tree)
    for k in range(KEPT):
        if tree[0] == 1:
            book.grow(0, k + 1) if k % 2 == 0 else book.prune(1)
        else:
            one, other, _ = tree[1][0]
            book.change_delay(one, other, k + 1)
    return book


class BookTest(unittest.TestCase):
    def check_same(self, book, model):
        """Check all queries of the book against the model and against a new book of the same tree."""
        tree = model.tree
        self.assertEqual(book.tree(), tree)
        self.assertEqual(book.source, model.source)
        self.assertEqual(book.actions(), tuple(model.actions))
        self.assertEqual(len(book), len(model.actions))
        self.assertEqual([book.state_at(step) for step in range(len(book) + 1)], model.trees)
        fresh = Book(tree)
        fresh.start_at(model.source)
        self.assertEqual(answers_of(book)[:7], answers_of(fresh)[:7])
        self.assertEqual(book.need, need_from(tree, model.source))
        self.assertEqual(book.best, best_sources(tree))
        self.assertEqual(book.needs(), all_needs(tree))
        self.assertEqual(book.schedule(), best_schedule(tree, model.source))
        self.assertEqual(list(book.walk()), list(walk_calls(tree, model.source)))

    def check_call(self, book, model, name, *values):
        """Make the same call of the book and of the model; return what the model raised."""
        before = state_of(book)
        expected = outcome_of(model.do, name, *values)
        found = outcome_of(getattr(book, name), *values)
        self.assertEqual(found, expected, (model.tree, name, values))
        if expected is not None:
            for one, other in zip(found[1], expected[1]):
                self.assertIs(type(one), type(other))
                if any(one is value for value in values):
                    self.assertIs(one, other)
            self.assertEqual(state_of(book), before)
        return expected


class ConstructorTest(BookTest):
    def test_any_value(self):
        for value in [*JUNK, *changed(D, FEW), *changed(T, FEW), *changed((1, ()), JUNK), *changed(PAIR, JUNK)]:
            fault = find_fault(value)
            if fault is None:
                self.assertEqual(Book(value).tree(), value)
            else:
                for made in (Book, SwiftBook, lambda tree: SwiftBook(tree, 0)):
                    with self.assertRaises(InvalidTree) as caught:
                        made(value)
                    self.assertEqual((caught.exception.path, caught.exception.reason), fault)

    def test_a_new_book(self):
        for tree in FEW_TREES + MIXED_LARGE + LARGE:
            book = Book(tree)
            self.check_same(book, Model(tree))
            self.assertEqual(book.source, 0)
            self.assertEqual(book.log(), ())
            self.assertEqual(book.actions(), ())
            self.assertEqual(len(book), 0)

    def test_limit(self):
        self.assertEqual((Book.LIMIT, SwiftBook.LIMIT, Book(T).LIMIT), (60, 60, 60))
        self.assertIs(type(Book.LIMIT), int)


class ActionsTest(BookTest):
    def check_all(self, tree, name, choices):
        for values in choices:
            book = Book(tree)
            model = Model(tree)
            if self.check_call(book, model, name, *values) is None:
                self.check_same(book, model)

    def test_every_right_and_nearly_right_call(self):
        for tree in [ONE, PAIR, T, D] + MIXED_SMALL[:8]:
            vertices = range(-1, tree[0] + 1)
            delays = (0, 1, 4, GREATEST, GREATEST + 1)
            self.check_all(tree, "change_delay", product(vertices, vertices, delays))
            self.check_all(tree, "grow", product(vertices, delays))
            self.check_all(tree, "prune", product(vertices))
            self.check_all(tree, "move", product(vertices, vertices, vertices))

    def test_large(self):
        for tree in LARGE[::3] + MIXED_LARGE[::7]:
            vertices = (0, 1, 7, tree[0] - 2, tree[0] - 1, tree[0])
            self.check_all(tree, "change_delay", product(vertices, vertices, (0, 9)))
            self.check_all(tree, "grow", product(vertices, (0, 9)))
            self.check_all(tree, "prune", product(vertices))
            self.check_all(tree, "move", product(vertices, vertices, vertices))

    def test_values_of_every_kind_in_each_place(self):
        right = {"change_delay": (3, 1, 4), "grow": (1, 4), "prune": (4,), "move": (3, 1, 0)}
        for name, values in right.items():
            for at in range(len(values)):
                for value in JUNK:
                    self.check_all(T, name, [values[:at] + (value,) + values[at + 1:]])
        for value in JUNK:
            self.check_all(ONE, "prune", [(value,)])
            self.check_all(ONE, "grow", [(value, 1), (0, value)])
            self.check_all(heap_tree(MOST), "grow", [(value, 1), (0, value)])

    def test_several_errors_at_once(self):
        pool = [0, 1, 3, 4, *ODD]
        for name, many in ACTIONS.items():
            for tree in (ONE, T, star_tree(MOST, 7)):
                self.check_all(tree, name, product(pool, repeat=many))

    def test_written_out(self):
        for name, values, error in (
            ("change_delay", (5, 5, 0), ("NoSuchVertex", (5,))),
            ("change_delay", (0, 5, 0), ("NoSuchVertex", (5,))),
            ("change_delay", (0, 0, 0), ("NoSuchEdge", (0, 0))),
            ("change_delay", (2, 0, 0), ("NoSuchEdge", (2, 0))),
            ("change_delay", (0, 1, 0), ("InvalidDelay", (0,))),
            ("change_delay", (0, 1, True), ("InvalidDelay", (True,))),
            ("grow", (5, 0), ("NoSuchVertex", (5,))),
            ("grow", (0, GREATEST + 1), ("InvalidDelay", (GREATEST + 1,))),
            ("prune", (True,), ("NoSuchVertex", (True,))),
            ("prune", (1,), ("NotLeaf", (1,))),
            ("move", (0, 5, 6), ("NoSuchVertex", (5,))),
            ("move", (0, 1, 6), ("NoSuchVertex", (6,))),
            ("move", (0, 2, 0), ("NoSuchEdge", (0, 2))),
            ("move", (1, 0, 4), ("InBranch", (4,))),
            ("move", (1, 0, 1), ("InBranch", (1,))),
        ):
            self.assertEqual(outcome_of(getattr(Book(T), name), *values), error)
        self.assertEqual(outcome_of(Book(ONE).prune, 0), ("LastVertex", ()))
        self.assertEqual(outcome_of(Book(ONE).prune, 1), ("NoSuchVertex", (1,)))
        self.assertEqual(outcome_of(Book(heap_tree(MOST)).grow, 0, 1), ("TooMany", ()))
        self.assertEqual(outcome_of(Book(heap_tree(MOST)).grow, 0, 0), ("InvalidDelay", (0,)))
        book = Book(T)
        book.move(3, 1, 0)
        self.assertEqual(book.tree(), (5, ((0, 1, 1), (0, 3, 1), (1, 2, 1), (3, 4, 1))))
        book.change_delay(4, 3, 8)
        book.prune(1 + 1)
        self.assertEqual(book.tree(), (4, ((0, 1, 1), (0, 2, 1), (2, 3, 8))))
        book.grow(1, 2)
        self.assertEqual(book.tree(), (5, ((0, 1, 1), (0, 2, 1), (1, 4, 2), (2, 3, 8))))
        self.assertEqual(book.actions(), (("move", 3, 1, 0), ("change_delay", 4, 3, 8), ("prune", 2), ("grow", 1, 2)))

    def test_an_action_without_a_change_is_kept(self):
        book = Book(T)
        book.move(3, 1, 1)
        book.change_delay(0, 1, 1)
        self.assertEqual((book.tree(), len(book)), (T, 2))

    def test_arguments_are_not_changed(self):
        for value in JUNK:
            before = copy.deepcopy(value)
            book = Book(T)
            for name, many in ACTIONS.items():
                outcome_of(getattr(book, name), *[value] * many)
            outcome_of(book.start_at, value)
            outcome_of(book.run, value)
            self.assertEqual(value, before)


class SequencesTest(BookTest):
    def values_for(self, source, tree, name):
        """Return arguments that are mostly right."""
        vertex = source.randrange(tree[0])
        near = [b if a == vertex else a for a, b, _ in tree[1] if vertex in (a, b)]
        away = source.choice(near) if near and source.random() < 0.9 else source.choice([0, *ODD])
        delay = source.choice([1, 1, 2, 3, 50, GREATEST, 0, True])
        target = source.randrange(tree[0] + 1)
        return {"change_delay": (vertex, away, delay), "grow": (vertex, delay), "prune": (vertex,),
                "move": (vertex, away, target), "start_at": (target,), "undo": ()}[name]

    def test_many_calls(self):
        for seed, tree in enumerate([ONE, PAIR, T, D, *MIXED_SMALL[:6], *LARGE[:4], *MIXED_LARGE[:6]]):
            source = random.Random(seed)
            book = Book(tree)
            model = Model(tree)
            twin = Book(tree)
            twin_answers = answers_of(twin)
            names = ["change_delay", "grow", "grow", "grow", "prune", "move", "move", "move", "start_at", "undo"]
            for _ in range(150):
                name = source.choice(names)
                self.check_call(book, model, name, *self.values_for(source, model.tree, name))
                if source.random() < 0.12:
                    self.check_same(book, model)
            self.check_same(book, model)
            # A book of the same tree has not noticed anything.
            self.assertEqual(answers_of(twin), twin_answers)
            while model.actions:
                self.check_call(book, model, "undo")
                if len(model.actions) % 10 == 0:
                    self.check_same(book, model)
            self.assertEqual(self.check_call(book, model, "undo"), ("NothingToUndo", ()))
            self.assertEqual(book.tree(), tree)

    def test_without_queries_in_between(self):
        for seed in range(10):
            source = random.Random(seed)
            book = Book(T)
            model = Model(T)
            for _ in range(80):
                name = source.choice([*ACTIONS, "grow", "start_at", "undo"])
                values = self.values_for(source, model.tree, name)
                self.assertEqual(outcome_of(getattr(book, name), *values), outcome_of(model.do, name, *values))
            self.check_same(book, model)


class FullBookTest(BookTest):
    def test_sixty_actions_and_one_more(self):
        for tree in FEW_TREES:
            book = full_book(tree)
            self.assertEqual(len(book), 60)
            before = answers_of(book)
            for name, many in ACTIONS.items():
                for values in product([0, 1, *ODD], repeat=many):
                    self.assertEqual(outcome_of(getattr(book, name), *values), ("TooManyActions", ()))
            self.assertEqual(answers_of(book), before)
            book.start_at(tree[0] - 1)
            self.assertEqual(book.source, tree[0] - 1)

    def test_after_undo(self):
        book = full_book(T)
        book.undo()
        self.assertEqual(len(book), 59)
        self.assertEqual(outcome_of(book.grow, 9, 1), ("NoSuchVertex", (9,)))
        self.assertIsNone(outcome_of(book.grow, 0, 1))
        with self.assertRaises(TooManyActions):
            book.grow(0, 1)
        for _ in range(60):
            book.undo()
        self.assertEqual(outcome_of(book.undo), ("NothingToUndo", ()))
        self.assertEqual(book.tree(), T)


class UndoTest(BookTest):
    def test_each_action(self):
        for name, values in (("change_delay", (0, 1, 9)), ("grow", (4, 9)), ("prune", (0,)), ("move", (1, 3, 4))):
            book = Book(T)
            getattr(book, name)(*values)
            self.assertNotEqual(book.tree(), T)
            self.assertIsNone(book.undo())
            self.assertEqual((book.tree(), book.actions(), len(book)), (T, (), 0))
            self.assertEqual(outcome_of(book.undo), ("NothingToUndo", ()))

    def test_one_at_a_time(self):
        book = Book(ONE)
        for k in range(5):
            book.grow(k, k + 1)
        for k in range(4, -1, -1):
            book.undo()
            self.assertEqual(book.actions(), tuple(("grow", j, j + 1) for j in range(k)))
            self.assertEqual(book.tree()[0], k + 1)

    def test_start_at_and_errors_are_not_undone(self):
        book = Book(T)
        book.grow(0, 1)
        book.start_at(3)
        outcome_of(book.grow, 9, 9)
        book.undo()
        self.assertEqual((book.tree(), book.source, len(book)), (T, 3, 0))


class SourceTest(BookTest):
    def test_any_value(self):
        for tree in FEW_TREES:
            for value in [*JUNK, tree[0] - 1, tree[0], MOST, -1]:
                book = Book(tree)
                model = Model(tree)
                book.grow(0, 1) if tree[0] < MOST else book.prune(0)
                model.do("grow", 0, 1) if tree[0] < MOST else model.do("prune", 0)
                self.check_call(book, model, "start_at", value)
                self.assertEqual(book.source, model.source)
                self.assertIs(type(book.source), int)

    def test_the_number_stays(self):
        book = Book(T)
        book.start_at(3)
        book.prune(0)
        # The vertex that was 3 is 2 now, and the one that was 4 is 3.
        self.assertEqual((book.source, book.need), (3, 3))
        book.move(0, 2, 3)
        self.assertEqual(book.source, 3)
        book.grow(0, 5)
        book.change_delay(0, 3, 7)
        self.assertEqual(book.source, 3)
        for _ in range(4):
            book.undo()
            self.assertEqual(book.source, 3)

    def test_a_number_that_is_no_vertex_any_more(self):
        for pruned in (0, 2, 4):
            book = Book(T)
            book.start_at(4)
            book.prune(pruned)
            self.assertEqual(book.source, 0)
            self.assertEqual(book.need, need_from(book.tree(), 0))
            book.undo()
            self.assertEqual((book.tree(), book.source), (T, 0))
        for source in (1, 2, 3):
            book = Book(T)
            book.start_at(source)
            book.prune(4)
            self.assertEqual(book.source, source)

    def test_after_undo(self):
        book = Book(T)
        book.grow(0, 1)
        book.start_at(5)
        book.undo()
        self.assertEqual(book.source, 0)
        book.grow(0, 1)
        self.assertEqual(book.source, 0)

    def test_an_old_source_does_not_come_back(self):
        book = Book(T)
        book.start_at(4)
        book.prune(0)
        book.start_at(2)
        book.undo()
        self.assertEqual(book.source, 2)

    def test_it_is_no_action(self):
        book = full_book(T)
        book.start_at(4)
        self.assertEqual((len(book), book.source), (60, 4))
        self.assertNotIn("start_at", [name for name, *_ in book.actions()])

    def test_properties_cannot_be_assigned(self):
        for name in ("source", "need", "best"):
            self.assertIsInstance(inspect.getattr_static(Book, name), property)
            with self.assertRaises(AttributeError):
                setattr(Book(T), name, 1)


class QueriesTest(BookTest):
    def test_kinds(self):
        for tree in FEW_TREES:
            book = full_book(tree)
            for found in (book.tree(), book.needs(), book.schedule(), book.actions(), book.best, book.log()):
                self.assertIs(type(found), tuple)
            for action in book.actions():
                self.assertIs(type(action), tuple)
            self.assertIs(type(book.need), int)
            self.assertIs(type(book.source), int)

    def test_walk_is_a_generator(self):
        self.assertTrue(inspect.isgeneratorfunction(Book.walk))
        book = Book(T)
        book.start_at(1)
        walk = book.walk()
        self.assertEqual(next(walk), (0, 1, 3))
        other = book.walk()
        self.assertEqual(list(other), [(0, 1, 3), (1, 1, 0), (1, 3, 4), (2, 1, 2)])
        self.assertEqual(list(walk), [(1, 1, 0), (1, 3, 4), (2, 1, 2)])
        self.assertEqual(list(Book(ONE).walk()), [])

    def test_what_was_returned_stays(self):
        book = Book(T)
        book.grow(0, 1)
        old = answers_of(book)
        again = answers_of(book)
        book.grow(0, 1)
        book.start_at(4)
        self.assertEqual(old, again)
        self.assertNotEqual(answers_of(book), old)

    def test_state_at_any_value(self):
        book = Book(ONE)
        trees = [ONE]
        for k in range(4):
            book.grow(k, 1)
            trees.append(book.tree())
        for value in [*JUNK, 3, 4, 5, 6]:
            if type(value) is int and 0 <= value <= 4:
                self.assertEqual(book.state_at(value), trees[value])
            else:
                name, fields = outcome_of(book.state_at, value)
                self.assertEqual(name, "NoSuchStep")
                self.assertIs(fields[0], value)
        book.undo()
        self.assertEqual(outcome_of(book.state_at, 4), ("NoSuchStep", (4,)))
        self.assertEqual(book.state_at(3), trees[3])
        book.grow(0, 7)
        self.assertEqual(book.state_at(4), book.tree())
        self.assertNotEqual(book.state_at(4), trees[4])
        self.assertEqual(outcome_of(book.state_at, True), ("NoSuchStep", (True,)))

    def test_errors_without_fields_and_with_one(self):
        book = Book(T)
        with self.assertRaises(LookupError) as caught:
            book.state_at(1)
        self.assertEqual(caught.exception.step, 1)
        with self.assertRaises(LookupError) as caught:
            book.move(0, 2, 1)
        self.assertEqual((caught.exception.vertex, caught.exception.away), (0, 2))


class Mine(Book):
    """A subclass with an attribute of its own."""

    def __init__(self, tree):
        super().__init__(tree)
        self.mine = tree[0]


class Quick(SwiftBook):
    """A subclass whose bound is not passed."""

    def __init__(self, tree):
        super().__init__(tree, 3)


class Small(Book):
    """A subclass that is created with small trees only."""

    def __init__(self, tree):
        super().__init__(tree)
        if tree[0] > 5:
            raise KeyError(tree[0])


class ClassMethodsTest(BookTest):
    def test_kinds(self):
        for name in ("read", "single"):
            self.assertIsInstance(inspect.getattr_static(Book, name), classmethod)
        self.assertIsInstance(inspect.getattr_static(Book, "size_of"), staticmethod)

    def test_read(self):
        for tree in FEW_TREES + MIXED_LARGE:
            book = Book.read(format_tree(tree))
            self.assertEqual(book, Book(tree))
            self.check_same(book, Model(tree))

    def test_read_any_value(self):
        for value in [*JUNK, "vertices 2\nedge 0 1 5", "vertices 1\n\n", "vertices 3\nedge 0 1 1\nedge 0 1 1\n", T]:
            try:
                parse_tree(value)
            except ParseError as error:
                place = error.place
            for made in (Book, SwiftBook, Mine, Quick, Book(T)):
                with self.assertRaises(ParseError) as caught:
                    made.read(value)
                self.assertEqual(caught.exception.place, place)
                self.assertIs(type(caught.exception.place), type(place))

    def test_single(self):
        self.assertEqual(Book.single(), Book(ONE))
        self.check_same(Book.single(), Model(ONE))
        self.assertIsNot(Book.single(), Book.single())

    def test_subclasses(self):
        for made in (Book, SwiftBook, Mine, Quick):
            self.assertIs(type(made.single()), made)
            self.assertIs(type(made.read("vertices 2\nedge 0 1 3\n")), made)
            self.assertIs(type(made(ONE).single()), made)
            self.assertEqual(made.single(), made(ONE))
            self.assertEqual(made.read("vertices 2\nedge 0 1 3\n"), made(PAIR))
        self.assertEqual(Mine.single().mine, 1)
        self.assertEqual(outcome_of(Quick.read, "vertices 2\nedge 0 1 4\n"), ("TooSlow", (4,)))

    def test_size_of(self):
        for made in (Book, SwiftBook, Mine, Book(T)):
            for name, many in ACTIONS.items():
                self.assertEqual(made.size_of(name), many)
            for value in [*JUNK, "undo", "run", "start_at", "walk", "copy", "size_of", "read", "Grow", "grow ", " grow",
                          ("grow",), ["grow"], {"grow": 2}, b"grow", "change_delay\n", "delay"]:
                self.assertIsNone(made.size_of(value))


class CopyTest(BookTest):
    def test_an_equal_book(self):
        for tree in FEW_TREES:
            book = full_book(tree)
            book.undo()
            book.start_at(book.tree()[0] - 1)
            twin = book.copy()
            self.assertIs(type(twin), Book)
            self.assertIsNot(twin, book)
            self.assertEqual(twin, book)
            self.assertEqual(answers_of(twin), answers_of(book))
            self.assertEqual(twin.log(), ())

    def test_both_go_their_own_ways(self):
        for first in (0, 1):
            book = Book(T)
            book.grow(0, 1)
            book.start_at(5)
            pair = (book, book.copy())
            before = answers_of(pair[1 - first])
            pair[first].grow(1, 7)
            pair[first].undo()
            pair[first].undo()
            pair[first].prune(4)
            pair[first].start_at(2)
            pair[first].run([("grow", 0, 1)])
            self.assertEqual(answers_of(pair[1 - first]), before)
            self.assertEqual(pair[1 - first].log(), ())
            pair[1 - first].undo()
            self.assertEqual(pair[1 - first].tree(), T)
            self.assertEqual(pair[first].actions(), (("prune", 4), ("grow", 0, 1)))

    def test_a_full_book(self):
        book = full_book(T)
        twin = book.copy()
        self.assertEqual(outcome_of(twin.grow, 0, 1), ("TooManyActions", ()))
        twin.undo()
        self.assertEqual((len(twin), len(book)), (59, 60))

    def test_subclasses(self):
        for made in (Mine, Quick, SwiftBook):
            book = made(T)
            book.change_delay(0, 1, 2)
            book.start_at(3)
            twin = book.copy()
            self.assertIs(type(twin), made)
            self.assertEqual(twin, book)
            self.assertEqual(answers_of(twin), answers_of(book))
            twin.undo()
            self.assertEqual(twin.tree(), T)
            self.assertEqual(len(book), 1)
        book = Small(T)
        book.grow(0, 1)
        self.assertIs(type(book.copy()), Small)
        self.assertEqual(book.copy(), book)


class EqualityTest(BookTest):
    def check_equal(self, one, other, equal):
        self.assertIs(one == other, equal)
        self.assertIs(other == one, equal)
        self.assertIs(one != other, not equal)

    def test_trees_and_sources(self):
        self.check_equal(Book(T), Book((5, tuple(list(T[1])))), True)
        self.check_equal(Book(T), Book(D), False)
        book = Book(T)
        book.start_at(1)
        self.check_equal(book, Book(T), False)
        book.start_at(0)
        self.check_equal(book, Book(T), True)

    def test_the_current_tree_counts(self):
        for made in (Book, SwiftBook, lambda tree: SwiftBook(tree, 99)):
            book = made(T)
            book.grow(0, 1)
            self.check_equal(book, made(T), False)
            self.check_equal(book, made(book.tree()), True)

    def test_kept_actions_and_logs_do_not_matter(self):
        book = Book(T)
        book.grow(0, 1)
        book.prune(5)
        book.run([])
        self.check_equal(book, Book(T), True)
        self.assertNotEqual(len(book), len(Book(T)))

    def test_nothing_else(self):
        for value in [*JUNK, T, str(Book(T)), (T, 0), object(), Book]:
            self.check_equal(Book(T), value, False)
            self.check_equal(Book.single(), value, False)
            self.check_equal(SwiftBook(T), value, False)

    def test_subclasses(self):
        self.check_equal(Mine(T), Book(T), True)
        self.check_equal(Mine(T), SwiftBook(T), False)
        self.check_equal(Quick(T), SwiftBook(T, 3), True)
        self.check_equal(Quick(T), SwiftBook(T), False)
        self.check_equal(Quick(T), Book(T), False)


class TextTest(BookTest):
    def test_always_with_these_words(self):
        self.assertEqual(str(Book(T)), "5 vertices, need 3 from 0, 0 actions")
        self.assertEqual(str(Book(ONE)), "1 vertices, need 0 from 0, 0 actions")
        self.assertEqual(str(SwiftBook(T, 9)), "5 vertices, need 3 from 0, 0 actions")
        book = Book(T)
        book.start_at(4)
        book.grow(4, GREATEST)
        self.assertEqual(str(book), "6 vertices, need 1000000000 from 4, 1 actions")
        self.assertEqual(f"{full_book(PAIR)}", "2 vertices, need 60 from 0, 60 actions")

    def test_len(self):
        book = Book(T)
        for k in range(1, 6):
            book.grow(0, 1)
            self.assertEqual(len(book), k)
        self.assertIs(type(len(book)), int)


class IdleTest(BookTest):
    def test_no_call_outside_of_a_batch_is_busy(self):
        book = Book(T)
        for call, values in ((book.grow, (9, 9)), (book.undo, ()), (book.run, (3,)), (book.start_at, (9,))):
            with self.assertRaises((ValueError, LookupError)) as caught:
                call(*values)
            self.assertNotIsInstance(caught.exception, Busy)


if __name__ == "__main__":
    unittest.main()
