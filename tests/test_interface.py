"""The names of the interface: each is defined in its own file, with its arguments."""

import ast
import importlib
import inspect
import unittest

FUNCTIONS = {
    "trees": """
        find_fault(value)
        is_plain(tree)
        neighbours_of(tree, vertex)
        path_between(tree, one, other)
        distance_between(tree, one, other)
        branch_of(tree, vertex, away)
    """,
    "needs": """
        branch_need(tree, vertex, away)
        need_from(tree, source)
        all_needs(tree)
        call_order(tree, source, vertex)
        best_sources(tree)
        select_sources(tree, **limits)
    """,
    "schedules": """
        is_schedule(tree, source, value)
        arrivals_of(tree, source, schedule)
        finish_time(tree, source, schedule)
        best_schedule(tree, source)
        latest_arrivals(tree, source, time)
        walk_calls(tree, source)
    """,
    "counting": """
        count_schedules(tree, source, time)
    """,
    "plains": """
        source_star(tree)
        full_tree(rounds)
    """,
    "collecting": """
        is_collection(tree, target, value)
        collect_time(tree, target, collection)
        reverse_schedule(tree, source, schedule)
    """,
    "witnesses": """
        witness_value(tree, source, value)
        find_witness(tree, source)
        check_certificate(tree, source, value)
    """,
    "growth": """
        add_leaf(tree, vertex, delay)
        drop_leaf(tree, vertex)
        spare_of(tree, vertex)
        joined_need(need, spare, key)
        free_vertices(tree, source, delay)
        join_trees(one, vertex, other, end, delay)
        join_all(first, *others, delay=1)
        cut_branch(tree, vertex, away)
    """,
    "changes": """
        set_delay(tree, vertex, away, delay)
        move_branch(tree, vertex, away, target)
        relabel_tree(tree, order)
        stretch_tree(tree, factor)
    """,
    "texts": """
        format_schedule(schedule)
        format_tree(tree)
        parse_schedule(value)
        parse_tree(value)
    """,
}
BOOK = """
    change_delay(self, vertex, away, delay)
    grow(self, vertex, delay)
    prune(self, vertex)
    move(self, vertex, away, target)
    undo(self)
    run(self, batch, *, on_step=None)
    log(self)
    source(self)
    start_at(self, value)
    need(self)
    best(self)
    tree(self)
    needs(self)
    schedule(self)
    walk(self)
    actions(self)
    state_at(self, step)
    read(cls, text)
    single(cls)
    size_of(name)
    copy(self)
"""
CONSOLE = """
    execute(self, line)
    transcript(self)
"""
CLASSES = {
    ("books", "Book", "(tree)"): BOOK,
    ("books", "SwiftBook", "(tree, most=None)"): "copy(self)",
    ("consoles", "Console", "(book)"): CONSOLE,
}
SPECIAL = {"Book": ("__init__", "__len__", "__eq__", "__str__"), "SwiftBook": ("__init__",), "Console": ("__init__",)}


class InterfaceTest(unittest.TestCase):
    def test_functions(self):
        for name, functions in FUNCTIONS.items():
            module = importlib.import_module("tellrounds." + name)
            rows = ast.parse(inspect.getsource(module)).body
            defined = [row.name for row in rows if isinstance(row, ast.FunctionDef)]
            for form in functions.strip().splitlines():
                with self.subTest(form=form):
                    function = form.strip().split("(")[0]
                    self.assertEqual(defined.count(function), 1)
                    self.assertEqual(function + str(inspect.signature(getattr(module, function))), form.strip())

    def test_classes(self):
        for (name, kind, form), methods in CLASSES.items():
            module = importlib.import_module("tellrounds." + name)
            rows = ast.parse(inspect.getsource(module)).body
            found = [row for row in rows if isinstance(row, ast.ClassDef) and row.name == kind]
            self.assertEqual(len(found), 1)
            self.assertEqual(str(inspect.signature(getattr(module, kind))), form)
            defined = {row.name: row for row in found[0].body if isinstance(row, ast.FunctionDef)}
            for method in methods.strip().splitlines():
                with self.subTest(kind=kind, method=method):
                    self.assertEqual(form_of(defined[method.strip().split("(")[0]]), method.strip())
            self.assertLessEqual(set(SPECIAL[kind]), set(defined))


def form_of(row):
    return f"{row.name}({ast.unparse(row.args)})"


if __name__ == "__main__":
    unittest.main()
