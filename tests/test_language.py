"""Some rules of the small language that the package is written in, as far as they are soon seen."""
import ast
import builtins
import pathlib
import re
import unittest
from collections import Counter

PACKAGE = pathlib.Path(__file__).resolve().parent.parent / "strangersay"
FILES = sorted(PACKAGE.glob("*.py"))
BARRED_WORDS = re.compile(
    r"\b(type|typing|typing_extensions|enum|Enum|IntEnum|StrEnum|Flag|IntFlag|Generic|Protocol|ABC|ABCMeta|namedtuple"
    r"|NamedTuple|TypedDict|TYPE_CHECKING|abstractmethod)\b|dataclass|overload|contextmanager")
LET_BUILTINS = set(
    "len range enumerate zip min max sum abs sorted reversed int str bool bytes list tuple dict set frozenset isinstance"
    " ord repr any all divmod iter next super property staticmethod classmethod Exception ValueError TypeError KeyError"
    " IndexError LookupError ZeroDivisionError ArithmeticError OverflowError RuntimeError NotImplementedError"
    " AttributeError StopIteration NotImplemented".split())
LET_METHODS = set(
    "append clear copy count endswith extend find get index insert isalnum isalpha isdigit islower isspace isupper items"
    " join keys ljust lower lstrip partition pop remove replace reverse rfind rjust rpartition rsplit rstrip setdefault"
    " split splitlines startswith strip update upper values zfill bit_length __init__".split())
BUILTINS = set(dir(builtins))


def bound_names(tree):
    for node in ast.walk(tree):
        if isinstance(node, ast.Name) and isinstance(node.ctx, ast.Store):
            yield node.id
        elif isinstance(node, ast.arg):
            yield node.arg
        elif isinstance(node, (ast.FunctionDef, ast.ClassDef)):
            yield node.name


def own_methods(tree):
    return [part for node in ast.walk(tree) if isinstance(node, ast.ClassDef) for part in node.body
            if isinstance(part, ast.FunctionDef)]


def own_attributes(tree):
    return [node.attr for node in ast.walk(tree) if isinstance(node, ast.Attribute) and isinstance(node.ctx, ast.Store)]


class LanguageTest(unittest.TestCase):
    def trees(self):
        self.assertTrue(FILES)
        for path in FILES:
            with self.subTest(path.name):
                yield path, ast.parse(path.read_text("ascii"))

    def test_the_folder_holds_only_plain_files(self):
        for path in PACKAGE.iterdir():
            if path.name != "__pycache__":
                self.assertRegex(path.name, r"^[a-z][a-z0-9_]*\.py$|^__init__\.py$")

    def test_characters_words_and_lines(self):
        for path in FILES:
            text = path.read_text("ascii")
            with self.subTest(path.name):
                self.assertRegex(text, r"\A[ -~\n]*\Z")
                self.assertIsNone(BARRED_WORDS.search(text))
                self.assertLessEqual(len(text.splitlines()), 400)
                self.assertLessEqual(max(len(line) for line in text.splitlines()), 120)

    def test_functions_are_small(self):
        for _, tree in self.trees():
            for node in ast.walk(tree):
                if isinstance(node, ast.FunctionDef):
                    self.assertLessEqual(node.end_lineno - node.lineno + 1, 40, node.name)

    def test_imports_are_from_the_package(self):
        for _, tree in self.trees():
            for node in ast.walk(tree):
                self.assertNotIsInstance(node, ast.Import)
                if isinstance(node, ast.ImportFrom):
                    self.assertEqual(node.level, 0)
                    self.assertTrue(node.module.startswith("strangersay."))
                    defined = ast.parse((PACKAGE / (node.module.split(".")[1] + ".py")).read_text("ascii"))
                    for alias in node.names:
                        self.assertIn(alias.name, list(bound_names(defined)))

    def test_names_are_plain_and_their_own(self):
        for _, tree in self.trees():
            for name in bound_names(tree):
                if name != "__init__":
                    self.assertFalse(name.startswith("_"), name)
                self.assertNotIn(name, BUILTINS)

    def test_only_let_builtins_and_values(self):
        for _, tree in self.trees():
            for node in ast.walk(tree):
                if isinstance(node, ast.Name) and node.id in BUILTINS:
                    self.assertIn(node.id, LET_BUILTINS)
                self.assertNotIsInstance(node, (ast.Div, ast.Global, ast.AsyncFunctionDef))
                if isinstance(node, ast.Constant):
                    self.assertNotIsInstance(node.value, (float, complex))

    def test_imported_names_are_not_bound_again(self):
        for _, tree in self.trees():
            imported = [alias.asname or alias.name for node in tree.body if isinstance(node, ast.ImportFrom)
                        for alias in node.names]
            self.assertEqual(len(imported), len(set(imported)))
            # A method is reached by its object alone, so it may be called as what it asks.
            bound = Counter(bound_names(tree)) - Counter(method.name for method in own_methods(tree))
            self.assertEqual(set(imported) & set(bound), set())

    def test_no_name_is_a_method_and_an_attribute(self):
        methods, attributes = set(), set()
        for _, tree in self.trees():
            names = [method.name for method in own_methods(tree)]
            methods |= set(names)
            attributes |= set(own_attributes(tree))
        self.assertTrue(methods and attributes)
        self.assertEqual(methods & attributes, set())

    def test_names_of_methods_are_not_those_of_builtin_values(self):
        taken = {name for kind in (str, int, list, dict, set, bytes, tuple) for name in dir(kind)}
        for _, tree in self.trees():
            for method in own_methods(tree):
                if method.name != "__init__":
                    self.assertNotIn(method.name, taken)

    def test_only_let_methods_are_called(self):
        own = {method.name for path in FILES for method in own_methods(ast.parse(path.read_text("ascii")))}
        for _, tree in self.trees():
            for node in ast.walk(tree):
                if isinstance(node, ast.Call) and isinstance(node.func, ast.Attribute):
                    self.assertIn(node.func.attr, LET_METHODS | own)


if __name__ == "__main__":
    unittest.main()
