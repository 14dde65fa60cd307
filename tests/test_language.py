"""The rules of ../shared/LANGUAGE.md that can be read off the package's files at a glance."""

import ast
import builtins
import pathlib
import re
import unittest

PACKAGE = pathlib.Path(__file__).resolve().parent.parent / "boughturn"
FILES = sorted(PACKAGE.glob("*.py"))
BARRED = (
    "type", "typing", "typing_extensions", "enum", "Enum", "IntEnum", "StrEnum", "Flag", "IntFlag", "Generic",
    "Protocol", "ABC", "ABCMeta", "namedtuple", "NamedTuple", "TypedDict", "TYPE_CHECKING", "abstractmethod",
)
BUILTINS = {
    "len", "range", "enumerate", "zip", "min", "max", "sum", "abs", "sorted", "reversed", "int", "str", "bool",
    "bytes", "list", "tuple", "dict", "set", "isinstance", "ord", "repr", "any", "all", "divmod", "Exception",
    "ValueError", "KeyError", "IndexError", "LookupError", "ZeroDivisionError",
}


def trees():
    """Each file's path with its tree."""
    for path in FILES:
        yield path, ast.parse(path.read_text())


def bound_names(tree):
    """All names that the file gives a meaning."""
    names = set()
    for node in ast.walk(tree):
        if isinstance(node, (ast.FunctionDef, ast.ClassDef)):
            names.add(node.name)
        elif isinstance(node, ast.arg):
            names.add(node.arg)
        elif isinstance(node, ast.alias):
            names.add(node.asname or node.name)
        elif isinstance(node, ast.Name) and isinstance(node.ctx, ast.Store):
            names.add(node.id)
        elif isinstance(node, ast.ExceptHandler) and node.name:
            names.add(node.name)
    return names


def imports_of(tree):
    """The names that the file imports, and the modules that they are imported from."""
    found = [node for node in ast.walk(tree) if isinstance(node, ast.ImportFrom)]
    return {alias.name for node in found for alias in node.names}, {node.module for node in found}


def inner_names(tree):
    """All names that the file's functions give a meaning: parameters, local variables, nested functions."""
    functions = [node for node in ast.walk(tree) if isinstance(node, (ast.FunctionDef, ast.Lambda))]
    names = set()
    for function in functions:
        names |= bound_names(function) - {getattr(function, "name", None)}
    return names


def is_passing(node):
    """Whether the node is a call of what may be iterated only on the spot."""
    if not isinstance(node, ast.Call):
        return False
    if isinstance(node.func, ast.Name):
        return node.func.id in ("range", "zip", "enumerate", "reversed")
    return isinstance(node.func, ast.Attribute) and node.func.attr in ("items", "keys", "values")


class LanguageTests(unittest.TestCase):

    def test_the_folder_holds_files_of_python_only(self):
        others = [path.name for path in PACKAGE.iterdir() if path.suffix != ".py" and path.name != "__pycache__"]
        self.assertEqual(others, [])
        self.assertIn("__init__.py", [path.name for path in FILES])

    def test_sizes_and_signs(self):
        for path in FILES:
            lines = path.read_text().split("\n")
            self.assertLessEqual(len(lines), 400, path)
            for number, line in enumerate(lines, start=1):
                self.assertLessEqual(len(line), 120, (path, number))
                self.assertTrue(all(" " <= sign <= "~" for sign in line), (path, number))

    def test_functions_are_short(self):
        for path, tree in trees():
            for node in ast.walk(tree):
                if isinstance(node, ast.FunctionDef):
                    self.assertLessEqual(node.end_lineno - node.lineno + 1, 40, (path, node.name))

    def test_barred_words(self):
        for path in FILES:
            words = re.findall(r"\w+", path.read_text())
            self.assertEqual([word for word in words if word in BARRED], [], path)

    def test_imports_name_the_package(self):
        for path, tree in trees():
            for node in ast.walk(tree):
                self.assertNotIsInstance(node, ast.Import, path)
                if isinstance(node, ast.ImportFrom):
                    self.assertTrue(node.module.startswith("boughturn."), path)
                    self.assertEqual(node.level, 0, path)

    def test_names_that_are_read_are_own_or_allowed(self):
        for path, tree in trees():
            read = {node.id for node in ast.walk(tree) if isinstance(node, ast.Name)}
            self.assertEqual(read - bound_names(tree) - BUILTINS, set(), path)

    def test_names_that_are_bound(self):
        for path, tree in trees():
            for name in bound_names(tree) - {"__init__"}:
                self.assertFalse(name.startswith("_"), (path, name))
                self.assertNotIn(name, dir(builtins), path)

    def test_no_inner_name_is_that_of_an_import_or_a_class(self):
        for path, tree in trees():
            classes = {node.name for node in ast.walk(tree) if isinstance(node, ast.ClassDef)}
            self.assertEqual(inner_names(tree) & (classes | imports_of(tree)[0]), set(), path)

    def test_imports_name_the_file_that_defines_and_go_round_nowhere(self):
        files = {f"boughturn.{path.stem}": tree for path, tree in trees()}
        led_to = {name: imports_of(tree)[1] for name, tree in files.items()}
        for path, tree in trees():
            for node in ast.walk(tree):
                if isinstance(node, ast.ImportFrom):
                    defined = set()
                    for row in files[node.module].body:
                        defined |= {row.name} if isinstance(row, (ast.FunctionDef, ast.ClassDef)) else set()
                        defined |= {target.id for target in row.targets} if isinstance(row, ast.Assign) else set()
                    self.assertEqual({alias.name for alias in node.names} - defined, set(), path)
        while led_to:
            last = [name for name, others in led_to.items() if not others & set(led_to)]
            self.assertTrue(last, led_to)
            led_to = {name: others for name, others in led_to.items() if name not in last}

    def test_what_is_iterated_at_once_is_not_stored(self):
        for path, tree in trees():
            for node in ast.walk(tree):
                if isinstance(node, (ast.Assign, ast.Return, ast.AnnAssign, ast.NamedExpr)):
                    self.assertFalse(is_passing(node.value), (path, node.lineno))

    def test_no_name_is_a_method_here_and_an_attribute_there(self):
        methods = set()
        attributes = set()
        for path, tree in trees():
            for node in ast.walk(tree):
                if isinstance(node, ast.ClassDef):
                    methods |= {row.name for row in node.body if isinstance(row, ast.FunctionDef)}
                if isinstance(node, ast.Attribute) and isinstance(node.ctx, ast.Store):
                    attributes.add(node.attr)
        self.assertEqual(methods & attributes, set())

    def test_powers_have_written_exponents(self):
        for path, tree in trees():
            for node in ast.walk(tree):
                if isinstance(node, ast.BinOp) and isinstance(node.op, ast.Pow):
                    self.assertIsInstance(node.right, ast.Constant, (path, node.lineno))

    def test_no_floats_and_no_percent_signs(self):
        for path, tree in trees():
            for node in ast.walk(tree):
                self.assertNotIsInstance(node, (ast.Div, ast.Global, ast.AsyncFunctionDef), path)
                if isinstance(node, ast.Constant):
                    self.assertNotIsInstance(node.value, float, path)
                    self.assertNotIn("%", str(node.value), path)


if __name__ == "__main__":
    unittest.main()
