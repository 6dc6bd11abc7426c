"""The examples of the document, as they stand in it, and those of README.md."""

import doctest
import pathlib
import unittest

from tests.samples import D, T

EXAMPLES = {
    5: """
>>> from tellrounds.trees import find_fault
>>> find_fault((2, ((0, 1, 0),)))
((1, 0, 2), 'delay')
""",
    6: """
>>> from tellrounds.trees import is_plain
>>> is_plain(T), is_plain(D)
(True, False)
""",
    7: """
>>> from tellrounds.trees import neighbours_of
>>> neighbours_of(T, 1)
(0, 2, 3)
""",
    8: """
>>> from tellrounds.trees import distance_between, path_between
>>> path_between(T, 0, 4), distance_between(D, 1, 2)
((0, 1, 3, 4), 6)
""",
    9: """
>>> from tellrounds.trees import branch_of
>>> branch_of(T, 3, 1)
(3, 4)
""",
}

README = pathlib.Path(__file__).resolve().parent.parent / "README.md"


def show_outcome(source, names):
    """Return what a session shows for this input."""
    try:
        code = compile(source, "example", "eval")
    except SyntaxError:
        exec(source, names)
        return ""
    value = eval(code, names)
    return "" if value is None else repr(value) + "\n"


class ExamplesTest(unittest.TestCase):
    def check(self, text, names):
        examples = doctest.DocTestParser().get_examples(text)
        self.assertTrue(examples)
        for example in examples:
            self.assertEqual(show_outcome(example.source, names), example.want, example.source)

    def test_document(self):
        for point, text in EXAMPLES.items():
            with self.subTest(point=point):
                self.check(text, {"T": T, "D": D})

    def test_readme(self):
        # A closing fence would be read as a part of the result before it.
        text = README.read_text(encoding="ascii").replace("```", "")
        self.check(text, {})


if __name__ == "__main__":
    unittest.main()
