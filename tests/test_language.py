"""The plainest rules of LANGUAGE.md, asked of the package's own files."""

import ast
import pathlib
import re
import unittest

PACKAGE = pathlib.Path(__file__).resolve().parent.parent / "sandyard"
FILES = sorted(path for path in PACKAGE.iterdir() if path.name != "__pycache__")

BUILT_IN = set(
    "len range enumerate zip min max sum abs sorted reversed int str bool list tuple dict set frozenset isinstance "
    "ord repr any all divmod Exception ValueError TypeError KeyError IndexError LookupError ZeroDivisionError "
    "ArithmeticError OverflowError RuntimeError NotImplementedError AttributeError StopIteration".split()
)
METHODS = set(
    "append clear copy count endswith extend find get index insert isalnum isalpha isdigit islower isspace isupper "
    "items join keys ljust lower lstrip partition pop remove replace reverse rfind rjust rpartition rsplit rstrip "
    "setdefault split splitlines startswith strip update upper values zfill bit_length".split()
)
WORDS = (
    r"\b(type|typing|typing_extensions|enum|Enum|IntEnum|StrEnum|Flag|IntFlag|Generic|Protocol|ABC|ABCMeta|namedtuple"
    r"|NamedTuple|TypedDict|TYPE_CHECKING|abstractmethod)\b|dataclass|overload|contextmanager"
)
RULED_OUT = (
    ast.With, ast.Match, ast.Delete, ast.Global, ast.Nonlocal, ast.Assert, ast.Yield, ast.YieldFrom, ast.Await,
    ast.AsyncFunctionDef, ast.AsyncFor, ast.AsyncWith, ast.SetComp, ast.DictComp, ast.GeneratorExp, ast.NamedExpr,
    ast.Starred, ast.Div, ast.Import,
)


def bound_names(tree):
    for node in ast.walk(tree):
        if isinstance(node, ast.Name) and isinstance(node.ctx, ast.Store):
            yield node.id
        elif isinstance(node, ast.arg):
            yield node.arg
        elif isinstance(node, (ast.FunctionDef, ast.ClassDef)):
            yield node.name
        elif isinstance(node, ast.alias):
            yield node.asname or node.name


def parsed_files():
    for path in FILES:
        text = path.read_bytes().decode("utf-8")
        yield path.name, text, ast.parse(text)


class Language(unittest.TestCase):
    def test_files_and_signs(self):
        for name, text, tree in parsed_files():
            with self.subTest(file=name):
                self.assertRegex(name, r"\A[a-z0-9_]+\.py\Z")
                self.assertRegex(text, r"\A[ -~\n]*\Z")
                self.assertLessEqual(text.count("\n"), 400)
                self.assertLessEqual(max(map(len, text.split("\n"))), 120)
                self.assertIsNone(re.search(WORDS, text))

    def test_imports(self):
        for name, text, tree in parsed_files():
            with self.subTest(file=name):
                for node in ast.walk(tree):
                    if isinstance(node, ast.ImportFrom):
                        self.assertIn(node, tree.body)
                        self.assertEqual(node.level, 0)
                        self.assertTrue(node.module.startswith("sandyard."))

    def test_functions_and_classes(self):
        for name, text, tree in parsed_files():
            with self.subTest(file=name):
                for node in ast.walk(tree):
                    if isinstance(node, ast.FunctionDef):
                        self.assertLessEqual(node.end_lineno - node.lineno + 1, 40)
                        self.assertFalse(node.args.vararg or node.args.kwarg or node.args.kwonlyargs)
                    if isinstance(node, (ast.FunctionDef, ast.ClassDef)):
                        self.assertEqual(node.decorator_list, [])

    def test_statements_and_values(self):
        for name, text, tree in parsed_files():
            with self.subTest(file=name):
                for node in ast.walk(tree):
                    self.assertNotIsInstance(node, RULED_OUT)
                    if isinstance(node, ast.Constant):
                        self.assertNotIsInstance(node.value, (float, bytes, complex))
                    if isinstance(node, ast.Assign):
                        self.assertEqual(len(node.targets), 1)
                    if isinstance(node, (ast.For, ast.While)):
                        self.assertEqual(node.orelse, [])
                    if isinstance(node, ast.ListComp):
                        self.assertEqual(len(node.generators), 1)
                        self.assertLessEqual(len(node.generators[0].ifs), 1)

    def test_names(self):
        for name, text, tree in parsed_files():
            with self.subTest(file=name):
                bound = set(bound_names(tree))
                for each in bound:
                    self.assertRegex(each, r"\A([A-Za-z][A-Za-z0-9_]*|__(init|eq|repr|str|len)__)\Z")
                    self.assertNotIn(each, BUILT_IN)
                for node in ast.walk(tree):
                    if isinstance(node, ast.Name):
                        self.assertIn(node.id, bound | BUILT_IN)

    def test_methods(self):
        for name, text, tree in parsed_files():
            with self.subTest(file=name):
                own = {node.name for node in ast.walk(tree) if isinstance(node, ast.FunctionDef)}
                for node in ast.walk(tree):
                    if isinstance(node, ast.Call) and isinstance(node.func, ast.Attribute):
                        self.assertIn(node.func.attr, METHODS | own)


if __name__ == "__main__":
    unittest.main()
