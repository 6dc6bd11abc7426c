"""The names of the interface: each is defined in its own file, with its arguments."""

import ast
import importlib
import inspect
import unittest

FUNCTIONS = {
    "trees": {
        "find_fault": ["value"],
        "is_plain": ["tree"],
        "neighbours_of": ["tree", "vertex"],
        "path_between": ["tree", "one", "other"],
        "distance_between": ["tree", "one", "other"],
        "branch_of": ["tree", "vertex", "away"],
    },
}


class InterfaceTest(unittest.TestCase):
    def test_functions(self):
        for name, functions in FUNCTIONS.items():
            module = importlib.import_module("tellrounds." + name)
            rows = ast.parse(inspect.getsource(module)).body
            defined = [row.name for row in rows if isinstance(row, ast.FunctionDef)]
            for function, parameters in functions.items():
                with self.subTest(function=function):
                    self.assertEqual(defined.count(function), 1)
                    self.assertEqual(list(inspect.signature(getattr(module, function)).parameters), parameters)


if __name__ == "__main__":
    unittest.main()
