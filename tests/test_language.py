"""The rules of the language that can be read off the files of the package."""

import ast
import builtins
import pathlib
import re
import unittest

PACKAGE = pathlib.Path(__file__).resolve().parent.parent / "tellrounds"
WORDS = (
    "type typing typing_extensions enum Enum IntEnum StrEnum Flag IntFlag Generic Protocol ABC ABCMeta"
    " namedtuple NamedTuple TypedDict TYPE_CHECKING abstractmethod"
).split()
PARTS_OF_WORDS = ("dataclass", "overload", "contextmanager")
BUILTINS = (
    "len range enumerate zip min max sum abs sorted reversed int str bool bytes list tuple dict set frozenset"
    " isinstance ord repr any all divmod Exception ValueError TypeError KeyError IndexError LookupError"
    " ZeroDivisionError ArithmeticError OverflowError RuntimeError NotImplementedError AttributeError"
    " StopIteration NotImplemented iter next property staticmethod classmethod super"
).split()
# With a class that compares, these take a list and no generator expression.
ON_A_LIST = ("any", "all", "min", "max", "sum", "sorted")
AT_ONCE = ("zip", "enumerate", "reversed", "range", "items", "keys", "values")
SPECIAL = re.compile(r"__[a-z]+__")
SPECIAL_METHODS = ("__init__", "__eq__", "__len__", "__str__")
DECORATORS = ("property", "staticmethod", "classmethod")
METHODS_OF_VALUES = (
    "append clear copy count endswith extend find get index insert isalnum isalpha isdigit islower isspace isupper"
    " items join keys ljust lower lstrip partition pop remove replace reverse rfind rjust rpartition rsplit rstrip"
    " setdefault split splitlines startswith strip update upper values zfill bit_length isascii removeprefix"
).split()
NOT_USED = (
    "register mro elements open input law version_info with_traceback add_note attrgetter breakpoint builtins compile"
    " copyright credits delattr dir eval exec exit gc getattr globals hasattr help id importlib license locals"
    " methodcaller os quit setattr type vars sys"
).split()
IN_FINALLY = (ast.Assign, ast.Pass)
SIMPLE = (ast.Name, ast.Attribute, ast.Constant, ast.Tuple, ast.List, ast.BinOp, ast.Add, ast.Load, ast.Store)
MODULE_LEVEL = (ast.ImportFrom, ast.FunctionDef, ast.ClassDef, ast.Assign)
LEFT_OUT = (
    ast.Global, ast.AsyncFunctionDef, ast.Await, ast.AsyncFor, ast.AsyncWith, ast.Import, ast.Div, ast.TryStar,
)


def files():
    return sorted(PACKAGE.rglob("*.py"))


def read(file):
    return file.read_text(encoding="utf-8")


def nodes_of(file):
    return list(ast.walk(ast.parse(read(file))))


def names_in(node):
    """Return the names that the node itself binds or reads."""
    if isinstance(node, ast.Name):
        return [node.id]
    if isinstance(node, ast.arg):
        return [node.arg]
    if isinstance(node, ast.Attribute):
        return [node.attr]
    if isinstance(node, (ast.FunctionDef, ast.ClassDef)):
        return [node.name]
    return []


def called(node):
    """Return the name of what a call calls."""
    return getattr(node.func, "id", getattr(node.func, "attr", None))


def classes():
    return [node for file in files() for node in nodes_of(file) if isinstance(node, ast.ClassDef)]


def methods_of(node):
    return [row for row in node.body if isinstance(row, ast.FunctionDef)]


def attributes_in(node):
    """Return the names of the attributes that are assigned somewhere in a class."""
    return {part.attr for part in ast.walk(node) if isinstance(part, ast.Attribute) and isinstance(part.ctx, ast.Store)}


def binds(function):
    """Return the parameters, local variables and nested functions of a function."""
    found = set()
    for node in ast.walk(function):
        if isinstance(node, ast.arg):
            found.add(node.arg)
        if isinstance(node, ast.Name) and isinstance(node.ctx, ast.Store):
            found.add(node.id)
        if isinstance(node, ast.FunctionDef) and node is not function:
            found.add(node.name)
    return found


def top_names(module):
    """Return the names that a module of the package defines itself."""
    found = set()
    for row in ast.parse(read(PACKAGE.parent / (module.replace(".", "/") + ".py"))).body:
        if isinstance(row, (ast.FunctionDef, ast.ClassDef)):
            found.add(row.name)
        if isinstance(row, ast.Assign):
            found.add(row.targets[0].id)
    return found


class FilesTest(unittest.TestCase):
    def test_the_folder_holds_plain_files_only(self):
        names = [file.name for file in PACKAGE.iterdir() if file.name != "__pycache__"]
        self.assertIn("__init__.py", names)
        for name in names:
            self.assertRegex(name, r"^(__init__|[a-z][a-z0-9_]*)\.py$")

    def test_characters_and_sizes(self):
        for file in files():
            with self.subTest(file=file.name):
                text = read(file)
                self.assertRegex(text, r"\A[ -~\n]*\Z")
                lines = text.splitlines()
                self.assertLess(len(lines), 400)
                self.assertLessEqual(max(map(len, lines)), 120)
                for node in nodes_of(file):
                    if isinstance(node, ast.FunctionDef):
                        self.assertLessEqual(node.end_lineno - node.lineno + 1, 40, node.name)

    def test_words(self):
        for file in files():
            with self.subTest(file=file.name):
                text = read(file)
                self.assertEqual(set(re.findall(r"\w+", text)) & set(WORDS), set())
                self.assertEqual([part for part in PARTS_OF_WORDS if part in text], [])

    def test_strings(self):
        for file in files():
            for node in nodes_of(file):
                if isinstance(node, ast.Constant):
                    self.assertNotIsInstance(node.value, (float, complex))
                    if isinstance(node.value, str):
                        self.assertNotIn("%", node.value)


class CodeTest(unittest.TestCase):
    def test_module_level(self):
        for file in files():
            for at, row in enumerate(ast.parse(read(file)).body):
                docstring = at == 0 and isinstance(row, ast.Expr) and isinstance(row.value, ast.Constant)
                self.assertTrue(docstring or isinstance(row, MODULE_LEVEL), (file.name, row.lineno))

    def test_statements(self):
        for file in files():
            for node in nodes_of(file):
                self.assertNotIsInstance(node, LEFT_OUT, file.name)

    def test_imports_name_the_file_that_defines_the_name(self):
        for file in files():
            for node in nodes_of(file):
                if isinstance(node, ast.ImportFrom):
                    self.assertRegex(node.module, r"^tellrounds\.[a-z_]+$")
                    self.assertLessEqual({alias.name for alias in node.names}, top_names(node.module))

    def test_no_file_imports_from_itself_through_others(self):
        imports = {}
        for file in files():
            rows = [node.module for node in nodes_of(file) if isinstance(node, ast.ImportFrom)]
            imports["tellrounds." + file.stem] = rows
        done = set()
        while len(done) < len(imports):
            ready = {name for name, rows in imports.items() if name not in done and set(rows) <= done}
            self.assertTrue(ready, sorted(set(imports) - done))
            done |= ready

    def test_calls(self):
        for file in files():
            for node in nodes_of(file):
                if isinstance(node, ast.Call) and called(node) in ON_A_LIST:
                    found = [part for part in node.args if isinstance(part, ast.GeneratorExp)]
                    self.assertEqual(found, [], (file.name, node.lineno))
                if isinstance(node, ast.Call) and isinstance(node.func, ast.Attribute):
                    self.assertNotEqual(node.func.attr, "sort", file.name)
                    self.assertNotEqual(node.func.attr, "format", file.name)
                if isinstance(node, (ast.Assign, ast.Return)) and isinstance(node.value, ast.Call):
                    self.assertNotIn(called(node.value), AT_ONCE, (file.name, node.lineno))

    def test_sets_are_not_iterated(self):
        for file in files():
            for node in nodes_of(file):
                if isinstance(node, (ast.For, ast.comprehension)):
                    self.assertNotIsInstance(node.iter, (ast.Set, ast.SetComp), file.name)
                    self.assertFalse(isinstance(node.iter, ast.Call) and called(node.iter) == "set", file.name)

    def test_names(self):
        for file in files():
            for node in nodes_of(file):
                for name in names_in(node):
                    if not SPECIAL.fullmatch(name):
                        self.assertRegex(name, r"^[A-Za-z][A-Za-z0-9_]*$", file.name)

    def test_builtins(self):
        for file in files():
            for node in nodes_of(file):
                if isinstance(node, ast.Name) and hasattr(builtins, node.id):
                    self.assertIn(node.id, BUILTINS, file.name)
                    self.assertIsInstance(node.ctx, ast.Load, file.name)

    def test_names_that_are_not_used(self):
        for file in files():
            for node in nodes_of(file):
                for name in names_in(node):
                    self.assertNotIn(name, NOT_USED, file.name)

    def test_is(self):
        for file in files():
            for node in nodes_of(file):
                if isinstance(node, ast.Compare):
                    for sign, part in zip(node.ops, node.comparators):
                        if isinstance(sign, (ast.Is, ast.IsNot)):
                            self.assertIsInstance(part, ast.Constant, (file.name, node.lineno))

    def test_powers(self):
        for file in files():
            for node in nodes_of(file):
                if isinstance(node, ast.BinOp) and isinstance(node.op, ast.Pow):
                    self.assertIsInstance(node.right, ast.Constant, (file.name, node.lineno))
                    self.assertIn(node.right.value, range(65), (file.name, node.lineno))

    def test_local_names_differ_from_classes_and_imports(self):
        for file in files():
            nodes = nodes_of(file)
            taken = {alias.name for node in nodes if isinstance(node, ast.ImportFrom) for alias in node.names}
            taken |= {node.name for node in nodes if isinstance(node, ast.ClassDef)}
            for node in nodes:
                if isinstance(node, ast.FunctionDef):
                    self.assertEqual(binds(node) & taken, set(), (file.name, node.name))

    def test_handlers_name_own_errors(self):
        own = top_names("tellrounds.errors")
        for file in files():
            for node in nodes_of(file):
                if isinstance(node, ast.ExceptHandler):
                    kinds = node.type.elts if isinstance(node.type, ast.Tuple) else [node.type]
                    self.assertLessEqual({kind.id for kind in kinds}, own, (file.name, node.lineno))

    def test_errors_are_created_on_the_spot(self):
        own = top_names("tellrounds.errors")
        for file in files():
            for node in nodes_of(file):
                if isinstance(node, ast.Raise) and node.exc is not None:
                    self.assertIsInstance(node.exc, ast.Call, (file.name, node.lineno))
                    self.assertIn(node.exc.func.id, own, (file.name, node.lineno))

    def test_finally(self):
        for file in files():
            for node in nodes_of(file):
                for row in getattr(node, "finalbody", []):
                    self.assertIsInstance(row, IN_FINALLY, (file.name, row.lineno))
                    for part in list(ast.walk(row))[1:]:
                        self.assertIsInstance(part, SIMPLE, (file.name, row.lineno))


class ClassesTest(unittest.TestCase):
    def test_special_methods_and_decorators(self):
        for node in classes():
            self.assertEqual(node.decorator_list, [])
            for row in methods_of(node):
                if SPECIAL.fullmatch(row.name):
                    self.assertIn(row.name, SPECIAL_METHODS)
                for decorator in row.decorator_list:
                    self.assertIn(decorator.id, DECORATORS, row.name)

    def test_no_name_is_a_method_and_an_attribute(self):
        methods = {row.name for node in classes() for row in methods_of(node)}
        attributes = {name for node in classes() for name in attributes_in(node)}
        self.assertEqual(methods & attributes, set())
        values = {row.targets[0].id for node in classes() for row in node.body if isinstance(row, ast.Assign)}
        self.assertEqual(values & (methods | attributes), set())

    def test_no_method_is_defined_twice(self):
        for node in classes():
            names = [row.name for row in methods_of(node)]
            self.assertEqual(len(names), len(set(names)), node.name)

    def test_methods_that_are_called(self):
        own = {row.name for node in classes() for row in methods_of(node)}
        for file in files():
            for node in nodes_of(file):
                if isinstance(node, ast.Call) and isinstance(node.func, ast.Attribute):
                    self.assertIn(node.func.attr, [*own, *METHODS_OF_VALUES], (file.name, node.lineno))

    def test_attributes_that_are_read_are_assigned(self):
        known = {name for node in classes() for name in attributes_in(node)}
        known |= {row.name for node in classes() for row in methods_of(node)}
        known |= {row.targets[0].id for node in classes() for row in node.body if isinstance(row, ast.Assign)}
        for file in files():
            for node in nodes_of(file):
                if isinstance(node, ast.Attribute):
                    self.assertIn(node.attr, [*known, *METHODS_OF_VALUES], (file.name, node.lineno))

    def test_what_the_special_methods_return(self):
        for node in classes():
            for row in methods_of(node):
                if row.name in ("__len__", "__str__", "__eq__"):
                    last = row.body[-1]
                    self.assertIsInstance(last, ast.Return, row.name)
                    assigned = [part for part in ast.walk(row) if isinstance(part, (ast.Assign, ast.AugAssign))]
                    self.assertEqual(assigned, [], row.name)
                if row.name == "__init__":
                    self.assertEqual([part for part in ast.walk(row) if isinstance(part, ast.Return)], [])


if __name__ == "__main__":
    unittest.main()
