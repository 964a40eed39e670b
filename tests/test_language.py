"""Some of the rules of the language in which the package is written: those that a look at each file can tell."""

import ast
import builtins
import pathlib
import re
import unittest

PACKAGE = pathlib.Path(__file__).resolve().parent.parent / "meanmoon"
FILES = sorted(PACKAGE.rglob("*.py"))

BARRED_WORDS = (
    "type typing typing_extensions enum Enum IntEnum StrEnum Flag IntFlag Generic Protocol ABC ABCMeta "
    "namedtuple NamedTuple TypedDict TYPE_CHECKING abstractmethod"
).split()
BUILTINS = (
    "len range enumerate zip min max sum abs sorted reversed int str bool bytes list tuple dict set frozenset "
    "isinstance ord repr any all divmod iter next super property staticmethod classmethod Exception ValueError "
    "TypeError KeyError IndexError LookupError ZeroDivisionError ArithmeticError OverflowError RuntimeError "
    "NotImplementedError AttributeError StopIteration NotImplemented object"
).split()
DOUBLE_UNDERSCORE = "__init__ __eq__ __repr__ __str__ __len__ __enter__ __exit__ __call__ __iter__".split()
METHODS = (
    "append clear copy count endswith extend find get index insert isalnum isalpha isdigit islower isspace isupper "
    "items join keys ljust lower lstrip partition pop remove replace reverse rfind rjust rpartition rsplit rstrip "
    "setdefault split splitlines startswith strip update upper values zfill bit_length removeprefix removesuffix"
).split()
TAKE_LISTS = "any all min max sum sorted".split()
BARRED_NODES = (ast.Global, ast.AsyncFunctionDef, ast.AsyncFor, ast.AsyncWith, ast.Await, ast.Div, ast.MatMult)


def walked(path):
    return ast.walk(ast.parse(path.read_text("ascii")))


def bound_names(tree):
    """Tell the names that a file gives a meaning of its own."""
    names = set()
    for node in ast.walk(tree):
        if isinstance(node, (ast.FunctionDef, ast.ClassDef)):
            names.add(node.name)
        elif isinstance(node, ast.arg):
            names.add(node.arg)
        elif isinstance(node, ast.alias):
            names.add(node.asname or node.name)
        elif isinstance(node, ast.Name) and isinstance(node.ctx, ast.Store):
            names.add(node.id)
        elif isinstance(node, ast.ExceptHandler) and node.name:
            names.add(node.name)
    return names


def defined_names(path):
    """Tell the names that a file defines at its module level, its imports left out."""
    names = set()
    for node in ast.parse(path.read_text("ascii")).body:
        if isinstance(node, (ast.FunctionDef, ast.ClassDef)):
            names.add(node.name)
        elif isinstance(node, ast.Assign):
            names.update(target.id for target in node.targets)
    return names


def methods_of(path):
    """Tell the names of the methods that the classes of a file define."""
    classes = [node for node in walked(path) if isinstance(node, ast.ClassDef)]
    return {part.name for node in classes for part in node.body if isinstance(part, ast.FunctionDef)}


def imported_files(path):
    """Tell the files of the package from which a file imports."""
    return [PACKAGE / (node.module.split(".")[1] + ".py") for node in walked(path) if isinstance(node, ast.ImportFrom)]


class LanguageTest(unittest.TestCase):
    def test_there_are_files(self):
        self.assertIn("__init__.py", [path.name for path in FILES])

    def test_signs_and_sizes(self):
        for path in FILES:
            text = path.read_bytes().decode("ascii")
            self.assertIsNone(re.search(r"[^ -~\n]", text), path)
            self.assertLess(len(text.splitlines()), 400, path)
            self.assertLessEqual(max(map(len, text.splitlines())), 120, path)
            for word in BARRED_WORDS:
                self.assertIsNone(re.search(rf"\b{word}\b", text), (path, word))
            for word in ("dataclass", "overload", "contextmanager"):
                self.assertNotIn(word, text, path)

    def test_functions_are_short(self):
        for path in FILES:
            for node in walked(path):
                if isinstance(node, ast.FunctionDef):
                    self.assertLessEqual(node.end_lineno - node.lineno + 1, 40, (path, node.name))

    def test_imports_name_the_file_that_defines(self):
        for path in FILES:
            for node in walked(path):
                self.assertNotIsInstance(node, ast.Import, path)
                if isinstance(node, ast.ImportFrom):
                    self.assertTrue(node.module.startswith("meanmoon."), path)
                    source = PACKAGE / (node.module.split(".")[1] + ".py")
                    for alias in node.names:
                        self.assertIn(alias.name, defined_names(source), path)

    def test_no_file_imports_itself_by_way_of_others(self):
        for path in FILES:
            seen, ahead = set(), imported_files(path)
            while ahead:
                seen.add(ahead[-1])
                ahead = ahead[:-1] + [file for file in imported_files(ahead[-1]) if file not in seen]
            self.assertNotIn(path, seen)

    def test_methods_that_are_called(self):
        own = {name for path in FILES for name in methods_of(path)}
        for path in FILES:
            for node in walked(path):
                if isinstance(node, ast.Call) and isinstance(node.func, ast.Attribute):
                    self.assertIn(node.func.attr, own.union(METHODS), (path, node.lineno))

    def test_what_goes_through_all_takes_lists(self):
        for path in FILES:
            for node in walked(path):
                if isinstance(node, ast.Call) and isinstance(node.func, ast.Name) and node.func.id in TAKE_LISTS:
                    for part in node.args:
                        self.assertNotIsInstance(part, ast.GeneratorExp, (path, node.lineno))

    def test_statements_and_values(self):
        for path in FILES:
            for node in walked(path):
                self.assertNotIsInstance(node, BARRED_NODES, path)
                if isinstance(node, ast.Constant):
                    self.assertNotIsInstance(node.value, (float, complex), path)
                    self.assertNotIn("%", str(node.value), path)

    def test_attributes_that_are_read_are_assigned(self):
        attributes = {node.attr for path in FILES for node in walked(path)
                      if isinstance(node, ast.Attribute) and isinstance(node.ctx, ast.Store)}
        for path in FILES:
            called = [node.func for node in walked(path) if isinstance(node, ast.Call)]
            lines = [(node.attr, node.lineno, node.col_offset) for node in called if isinstance(node, ast.Attribute)]
            for node in walked(path):
                if isinstance(node, ast.Attribute) and (node.attr, node.lineno, node.col_offset) not in lines:
                    self.assertIn(node.attr, attributes, (path, node.lineno))

    def test_names(self):
        for path in FILES:
            tree = ast.parse(path.read_text("ascii"))
            bound = bound_names(tree)
            for name in bound:
                if name not in DOUBLE_UNDERSCORE:
                    self.assertFalse(name.startswith("_"), (path, name))
                    self.assertFalse(hasattr(builtins, name), (path, name))
            for node in ast.walk(tree):
                if isinstance(node, ast.Name):
                    self.assertTrue(node.id in bound or node.id in BUILTINS, (path, node.id))

    def test_what_is_asked_by_python_itself_assigns_nothing(self):
        for path in FILES:
            for node in walked(path):
                if isinstance(node, ast.FunctionDef) and node.name in ("__eq__", "__repr__", "__str__", "__len__"):
                    assigned = [part for part in ast.walk(node) if isinstance(part, (ast.Assign, ast.AugAssign))]
                    self.assertEqual(assigned, [], (path, node.lineno))
                    self.assertIsInstance(node.body[-1], ast.Return, (path, node.lineno))

    def test_no_name_is_a_method_and_an_attribute(self):
        methods, attributes = set(), set()
        for path in FILES:
            methods.update(methods_of(path))
            for node in walked(path):
                if isinstance(node, ast.Attribute) and isinstance(node.ctx, ast.Store):
                    attributes.add(node.attr)
        self.assertEqual(methods & attributes, set())

    def test_no_local_name_is_that_of_a_class_or_an_import(self):
        for path in FILES:
            tree = ast.parse(path.read_text("ascii"))
            taken = {node.name for node in tree.body if isinstance(node, ast.ClassDef)}
            taken.update(alias.name for node in tree.body if isinstance(node, ast.ImportFrom) for alias in node.names)
            for node in ast.walk(tree):
                if isinstance(node, ast.FunctionDef):
                    self.assertEqual(bound_names(ast.Module(node.body + [node.args], [])) & taken, set(), path)


if __name__ == "__main__":
    unittest.main()
