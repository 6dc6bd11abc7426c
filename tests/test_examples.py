"""The examples of the document, as they stand in it, and those of README.md."""

import doctest
import pathlib
import unittest

from tests.samples import D, T

EXAMPLES = {
    5: """
>>> from tellrounds.trees import find_fault
>>> find_fault((2, ((0, 1, 0),)))
((1, 0, 2), 'delay')
""",
    6: """
>>> from tellrounds.trees import is_plain
>>> is_plain(T), is_plain(D)
(True, False)
""",
    7: """
>>> from tellrounds.trees import neighbours_of
>>> neighbours_of(T, 1)
(0, 2, 3)
""",
    8: """
>>> from tellrounds.trees import distance_between, path_between
>>> path_between(T, 0, 4), distance_between(D, 1, 2)
((0, 1, 3, 4), 6)
""",
    9: """
>>> from tellrounds.trees import branch_of
>>> branch_of(T, 3, 1)
(3, 4)
""",
    10: """
>>> from tellrounds.needs import branch_need
>>> branch_need(T, 1, 3), branch_need(T, 3, 1)
(2, 1)
""",
    11: """
>>> from tellrounds.needs import all_needs, need_from
>>> need_from(D, 0), all_needs(T)
(5, (3, 3, 3, 3, 4))
""",
    12: """
>>> from tellrounds.needs import call_order
>>> call_order(T, 1, 1), call_order(T, 0, 3)
((3, 0, 2), (4,))
""",
    13: """
>>> from tellrounds.needs import best_sources
>>> best_sources(T)
(0, 1, 2, 3)
""",
    14: """
>>> from tellrounds.schedules import is_schedule
>>> is_schedule(T, 1, (1, None, 2, 0, 1)), is_schedule(T, 1, (0, None, 2, 0, 1))
(True, False)
""",
    15: """
>>> from tellrounds.schedules import arrivals_of, finish_time
>>> arrivals_of(T, 1, (1, None, 2, 0, 1)), finish_time(T, 1, (1, None, 2, 0, 1))
((2, 0, 3, 1, 2), 3)
""",
    16: """
>>> from tellrounds.schedules import best_schedule
>>> best_schedule(T, 1)
(1, None, 2, 0, 1)
""",
    17: """
>>> from tellrounds.schedules import latest_arrivals
>>> latest_arrivals(T, 1, 3), latest_arrivals(T, 4, 3)
((3, 0, 3, 2, 3), None)
""",
    19: """
>>> from tellrounds.witnesses import witness_value
>>> witness_value(T, 1, (1, ((0, ()), (2, ()), (3, ())))), witness_value(T, 1, (0, ()))
(3, None)
""",
    20: """
>>> from tellrounds.witnesses import find_witness, witness_value
>>> witness_value(T, 4, find_witness(T, 4))
4
""",
    21: """
>>> from tellrounds.schedules import best_schedule
>>> from tellrounds.witnesses import check_certificate, find_witness
>>> check_certificate(T, 1, (best_schedule(T, 1), find_witness(T, 1)))
True
""",
    27: """
>>> from tellrounds.growth import drop_leaf
>>> drop_leaf(T, 0)
(4, ((0, 1, 1), (0, 2, 1), (2, 3, 1)))
""",
    28: """
>>> from tellrounds.growth import spare_of
>>> spare_of(T, 0), spare_of(T, 1), spare_of(D, 0)
(2, 0, 4)
""",
    29: """
>>> from tellrounds.growth import joined_need
>>> joined_need(3, 2, 2), joined_need(3, 2, 3), joined_need(3, 2, 9)
(3, 4, 9)
""",
    30: """
>>> from tellrounds.growth import free_vertices
>>> free_vertices(T, 4, 1)
(0, 2, 3, 4)
""",
    31: """
>>> from tellrounds.growth import join_trees
>>> join_trees((1, ()), 0, D, 1, 7)
(4, ((0, 2, 7), (1, 2, 5), (1, 3, 1)))
""",
    32: """
>>> from tellrounds.growth import join_all
>>> join_all((1, ()), (1, ()), D, delay=3)
(5, ((0, 1, 3), (0, 2, 3), (2, 3, 5), (2, 4, 1)))
""",
    33: """
>>> from tellrounds.growth import cut_branch
>>> cut_branch(T, 3, 1)
((2, ((0, 1, 1),)), (3, ((0, 1, 1), (1, 2, 1))))
""",
    34: """
>>> from tellrounds.needs import select_sources
>>> select_sources(T), select_sources(T, most=3, degree=1), select_sources(T, least=4)
((0, 1, 2, 3, 4), (0, 2), (4,))
""",
    39: """
>>> from tellrounds.schedules import walk_calls
>>> list(walk_calls(T, 1))
[(0, 1, 3), (1, 1, 0), (1, 3, 4), (2, 1, 2)]
""",
}

README = pathlib.Path(__file__).resolve().parent.parent / "README.md"


def show_outcome(source, names):
    """Return what a session shows for this input."""
    try:
        code = compile(source, "example", "eval")
    except SyntaxError:
        exec(source, names)
        return ""
    value = eval(code, names)
    return "" if value is None else repr(value) + "\n"


class ExamplesTest(unittest.TestCase):
    def check(self, text, names):
        examples = doctest.DocTestParser().get_examples(text)
        self.assertTrue(examples)
        for example in examples:
            self.assertEqual(show_outcome(example.source, names), example.want, example.source)

    def test_document(self):
        for point, text in EXAMPLES.items():
            with self.subTest(point=point):
                self.check(text, {"T": T, "D": D})

    def test_readme(self):
        # A closing fence would be read as a part of the result before it.
        text = README.read_text(encoding="ascii").replace("```", "")
        self.check(text, {})


if __name__ == "__main__":
    unittest.main()
