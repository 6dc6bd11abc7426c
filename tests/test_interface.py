"""The names of the interface: each is defined in its own file, with its arguments."""

import ast
import importlib
import inspect
import unittest

FUNCTIONS = {
    "trees": """
        find_fault(value)
        is_plain(tree)
        neighbours_of(tree, vertex)
        path_between(tree, one, other)
        distance_between(tree, one, other)
        branch_of(tree, vertex, away)
    """,
    "needs": """
        branch_need(tree, vertex, away)
        need_from(tree, source)
        all_needs(tree)
        call_order(tree, source, vertex)
        best_sources(tree)
        select_sources(tree, **limits)
    """,
    "schedules": """
        is_schedule(tree, source, value)
        arrivals_of(tree, source, schedule)
        finish_time(tree, source, schedule)
        best_schedule(tree, source)
        latest_arrivals(tree, source, time)
        walk_calls(tree, source)
    """,
    "witnesses": """
        witness_value(tree, source, value)
        find_witness(tree, source)
        check_certificate(tree, source, value)
    """,
    "growth": """
        add_leaf(tree, vertex, delay)
        drop_leaf(tree, vertex)
        spare_of(tree, vertex)
        joined_need(need, spare, key)
        free_vertices(tree, source, delay)
        join_trees(one, vertex, other, end, delay)
        join_all(first, *others, delay=1)
        cut_branch(tree, vertex, away)
    """,
}


class InterfaceTest(unittest.TestCase):
    def test_functions(self):
        for name, functions in FUNCTIONS.items():
            module = importlib.import_module("tellrounds." + name)
            rows = ast.parse(inspect.getsource(module)).body
            defined = [row.name for row in rows if isinstance(row, ast.FunctionDef)]
            for form in functions.strip().splitlines():
                with self.subTest(form=form):
                    function = form.strip().split("(")[0]
                    self.assertEqual(defined.count(function), 1)
                    self.assertEqual(function + str(inspect.signature(getattr(module, function))), form.strip())


if __name__ == "__main__":
    unittest.main()
