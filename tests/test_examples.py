"""The examples of the document, as they stand in it, and those of README.md."""

import doctest
import pathlib
import unittest

from tellrounds.errors import NoSuchEdge, NoSuchStep, NoSuchVertex, TellError
from tests.samples import D, T

EXAMPLES = {
    5: """
>>> from tellrounds.trees import find_fault
>>> find_fault((2, ((0, 1, 0),)))
((1, 0, 2), 'delay')
""",
    6: """
>>> from tellrounds.trees import is_plain
>>> is_plain(T), is_plain(D)
(True, False)
""",
    7: """
>>> from tellrounds.trees import neighbours_of
>>> neighbours_of(T, 1)
(0, 2, 3)
""",
    8: """
>>> from tellrounds.trees import distance_between, path_between
>>> path_between(T, 0, 4), distance_between(D, 1, 2)
((0, 1, 3, 4), 6)
""",
    9: """
>>> from tellrounds.trees import branch_of
>>> branch_of(T, 3, 1)
(3, 4)
""",
    10: """
>>> from tellrounds.needs import branch_need
>>> branch_need(T, 1, 3), branch_need(T, 3, 1)
(2, 1)
""",
    11: """
>>> from tellrounds.needs import all_needs, need_from
>>> need_from(D, 0), all_needs(T)
(5, (3, 3, 3, 3, 4))
""",
    12: """
>>> from tellrounds.needs import call_order
>>> call_order(T, 1, 1), call_order(T, 0, 3)
((3, 0, 2), (4,))
""",
    13: """
>>> from tellrounds.needs import best_sources
>>> best_sources(T)
(0, 1, 2, 3)
""",
    14: """
>>> from tellrounds.schedules import is_schedule
>>> is_schedule(T, 1, (1, None, 2, 0, 1)), is_schedule(T, 1, (0, None, 2, 0, 1))
(True, False)
""",
    15: """
>>> from tellrounds.schedules import arrivals_of, finish_time
>>> arrivals_of(T, 1, (1, None, 2, 0, 1)), finish_time(T, 1, (1, None, 2, 0, 1))
((2, 0, 3, 1, 2), 3)
""",
    16: """
>>> from tellrounds.schedules import best_schedule
>>> best_schedule(T, 1)
(1, None, 2, 0, 1)
""",
    17: """
>>> from tellrounds.schedules import latest_arrivals
>>> latest_arrivals(T, 1, 3), latest_arrivals(T, 4, 3)
((3, 0, 3, 2, 3), None)
""",
    18: """
>>> from tellrounds.counting import count_schedules
>>> count_schedules(T, 1, 2), count_schedules(T, 1, 3)
(0, 6)
""",
    19: """
>>> from tellrounds.witnesses import witness_value
>>> witness_value(T, 1, (1, ((0, ()), (2, ()), (3, ())))), witness_value(T, 1, (0, ()))
(3, None)
""",
    20: """
>>> from tellrounds.witnesses import find_witness, witness_value
>>> witness_value(T, 4, find_witness(T, 4))
4
""",
    21: """
>>> from tellrounds.schedules import best_schedule
>>> from tellrounds.witnesses import check_certificate, find_witness
>>> check_certificate(T, 1, (best_schedule(T, 1), find_witness(T, 1)))
True
""",
    22: """
>>> from tellrounds.plains import source_star
>>> source_star(T)
(1, (0, 2, 3))
""",
    23: """
>>> from tellrounds.plains import full_tree
>>> full_tree(2)
(4, ((0, 1, 1), (0, 2, 1), (2, 3, 1)))
""",
    24: """
>>> from tellrounds.collecting import is_collection
>>> is_collection(T, 1, (0, None, 1, 2, 0)), is_collection(T, 1, (0, None, 0, 2, 0))
(True, False)
""",
    25: """
>>> from tellrounds.collecting import collect_time
>>> collect_time(T, 1, (0, None, 1, 2, 0))
3
""",
    26: """
>>> from tellrounds.collecting import reverse_schedule
>>> reverse_schedule(T, 1, (1, None, 2, 0, 1))
(1, None, 0, 2, 1)
""",
    27: """
>>> from tellrounds.growth import drop_leaf
>>> drop_leaf(T, 0)
(4, ((0, 1, 1), (0, 2, 1), (2, 3, 1)))
""",
    28: """
>>> from tellrounds.growth import spare_of
>>> spare_of(T, 0), spare_of(T, 1), spare_of(D, 0)
(2, 0, 4)
""",
    29: """
>>> from tellrounds.growth import joined_need
>>> joined_need(3, 2, 2), joined_need(3, 2, 3), joined_need(3, 2, 9)
(3, 4, 9)
""",
    30: """
>>> from tellrounds.growth import free_vertices
>>> free_vertices(T, 4, 1)
(0, 2, 3, 4)
""",
    31: """
>>> from tellrounds.growth import join_trees
>>> join_trees((1, ()), 0, D, 1, 7)
(4, ((0, 2, 7), (1, 2, 5), (1, 3, 1)))
""",
    32: """
>>> from tellrounds.growth import join_all
>>> join_all((1, ()), (1, ()), D, delay=3)
(5, ((0, 1, 3), (0, 2, 3), (2, 3, 5), (2, 4, 1)))
""",
    33: """
>>> from tellrounds.growth import cut_branch
>>> cut_branch(T, 3, 1)
((2, ((0, 1, 1),)), (3, ((0, 1, 1), (1, 2, 1))))
""",
    34: """
>>> from tellrounds.needs import select_sources
>>> select_sources(T), select_sources(T, most=3, degree=1), select_sources(T, least=4)
((0, 1, 2, 3, 4), (0, 2), (4,))
""",
    35: """
>>> from tellrounds.changes import set_delay
>>> set_delay(D, 2, 0, 4)
(3, ((0, 1, 5), (0, 2, 4)))
""",
    36: """
>>> from tellrounds.changes import move_branch
>>> move_branch(T, 3, 1, 0)
(5, ((0, 1, 1), (0, 3, 1), (1, 2, 1), (3, 4, 1)))
""",
    37: """
>>> from tellrounds.changes import relabel_tree
>>> relabel_tree(D, (2, 0, 1))
(3, ((0, 1, 1), (1, 2, 5)))
""",
    38: """
>>> from tellrounds.changes import stretch_tree
>>> stretch_tree(D, 2)
(3, ((0, 1, 10), (0, 2, 2)))
""",
    39: """
>>> from tellrounds.schedules import walk_calls
>>> list(walk_calls(T, 1))
[(0, 1, 3), (1, 1, 0), (1, 3, 4), (2, 1, 2)]
""",
    40: """
>>> from tellrounds.books import Book
>>> Book((2, ((0, 1, 0),)))
raises InvalidTree((1, 0, 2), 'delay')
""",
    41: """
>>> from tellrounds.books import Book
>>> B = Book(T)
>>> B.change_delay(0, 2, 5)
raises NoSuchEdge(0, 2)
""",
    42: """
>>> from tellrounds.books import Book
>>> B = Book(T)
>>> B.move(3, 1, 4)
raises InBranch(4)
""",
    43: """
>>> from tellrounds.books import Book
>>> B = Book(T)
>>> B.undo()
raises NothingToUndo()
""",
    44: """
>>> from tellrounds.books import Book
>>> B = Book(T)
>>> B.run([('grow', 0, 1), ('prune', 1)])
raises BatchFailed(1)
""",
    45: """
>>> from tellrounds.books import Book
>>> B = Book(T)
>>> B.run([('grow', 0, 1)])
>>> B.log()
(('begin', 1), ('end', 1))
""",
    46: """
>>> from tellrounds.books import Book
>>> B = Book(T)
>>> B.start_at(4)
>>> B.prune(4)
>>> B.source
0
""",
    47: """
>>> from tellrounds.books import Book
>>> B = Book(T)
>>> B.start_at(4)
>>> B.need, B.best
(4, (0, 1, 2, 3))
""",
    48: """
>>> from tellrounds.books import Book
>>> B = Book(T)
>>> B.grow(0, 2)
>>> B.actions(), B.needs()
((('grow', 0, 2),), (3, 3, 4, 4, 5, 5))
""",
    49: """
>>> from tellrounds.books import Book
>>> B = Book(T)
>>> B.state_at(0) == T
True
""",
    50: """
>>> from tellrounds.books import Book
>>> Book.size_of('move'), Book.size_of('undo'), len(Book.single())
(3, None, 0)
""",
    51: """
>>> from tellrounds.books import SwiftBook
>>> B = SwiftBook(T, 3)
>>> B.grow(1, 1)
raises TooSlow(4)
""",
    52: """
>>> from tellrounds.books import Book, SwiftBook
>>> str(Book(T)), Book(T) == SwiftBook(T)
('5 vertices, need 3 from 0, 0 actions', False)
""",
    53: """
>>> from tellrounds.texts import format_schedule
>>> format_schedule((1, None, 2))
'1 - 2'
""",
    54: """
>>> from tellrounds.texts import parse_schedule
>>> parse_schedule('1 - -')
raises ParseError(2)
""",
    55: """
>>> from tellrounds.texts import parse_tree
>>> parse_tree('vertices 2\\nedge 0 1 5')
raises ParseError(2)
""",
    56: """
>>> from tellrounds.books import Book
>>> from tellrounds.consoles import Console
>>> B = Book(T)
>>> Console(B).execute('latest 3')
'0 1 3 2 3'
""",
    57: """
>>> from tellrounds.books import Book
>>> from tellrounds.consoles import Console
>>> B = Book(T)
>>> Console(B).transcript()
()
""",
}

README = pathlib.Path(__file__).resolve().parent.parent / "README.md"


def show_outcome(source, names):
    """Return what a session shows for this input."""
    try:
        code = compile(source, "example", "eval")
    except SyntaxError:
        exec(source, names)
        return ""
    try:
        value = eval(code, names)
    except (TellError, NoSuchVertex, NoSuchEdge, NoSuchStep) as error:
        return f"raises {error!r}\n"
    return "" if value is None else repr(value) + "\n"


class ExamplesTest(unittest.TestCase):
    def check(self, text, names):
        examples = doctest.DocTestParser().get_examples(text)
        self.assertTrue(examples)
        for example in examples:
            self.assertEqual(show_outcome(example.source, names), example.want, example.source)

    def test_every_point_with_an_example(self):
        self.assertEqual(list(EXAMPLES), list(range(5, 58)))

    def test_document(self):
        for point, text in EXAMPLES.items():
            with self.subTest(point=point):
                self.check(text, {"T": T, "D": D})

    def test_readme(self):
        # A closing fence would be read as a part of the result before it.
        text = README.read_text(encoding="ascii").replace("```", "")
        self.check(text, {})


if __name__ == "__main__":
    unittest.main()
