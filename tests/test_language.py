"""The rules of LANGUAGE.md that are easily seen, asked of the package's own files."""

import ast
import builtins
import importlib
import pathlib
import re
import unittest

PACKAGE = pathlib.Path(__file__).resolve().parent.parent / "sandyard"
FILES = sorted(path for path in PACKAGE.iterdir() if path.name != "__pycache__")

BUILT_IN = set(
    "len range enumerate zip min max sum abs sorted reversed int str bool list tuple dict set frozenset isinstance "
    "ord repr any all divmod Exception ValueError TypeError KeyError IndexError LookupError ZeroDivisionError "
    "ArithmeticError OverflowError RuntimeError NotImplementedError AttributeError StopIteration".split()
)
METHODS = set(
    "append clear copy count endswith extend find get index insert isalnum isalpha isdigit islower isspace isupper "
    "items join keys ljust lower lstrip partition pop remove replace reverse rfind rjust rpartition rsplit rstrip "
    "setdefault split splitlines startswith strip update upper values zfill bit_length".split()
)
WORDS = (
    r"\b(type|typing|typing_extensions|enum|Enum|IntEnum|StrEnum|Flag|IntFlag|Generic|Protocol|ABC|ABCMeta|namedtuple"
    r"|NamedTuple|TypedDict|TYPE_CHECKING|abstractmethod)\b|dataclass|overload|contextmanager"
)
RULED_OUT = (
    ast.With, ast.Match, ast.Delete, ast.Global, ast.Nonlocal, ast.Assert, ast.Yield, ast.YieldFrom, ast.Await,
    ast.AsyncFunctionDef, ast.AsyncFor, ast.AsyncWith, ast.SetComp, ast.DictComp, ast.GeneratorExp, ast.NamedExpr,
    ast.Starred, ast.Div, ast.Import,
)
UNUSED_NAMES = set(
    "register mro elements open input version_info with_traceback add_note attrgetter breakpoint builtins compile "
    "copyright credits delattr dir eval exec exit gc getattr globals hasattr help id importlib license locals "
    "methodcaller os quit setattr super type vars sys __name__ format format_map".split()
)
WALKED = ("zip", "enumerate", "reversed", "range")
WALKERS = ("list", "tuple", "dict", "sorted", "sum", "any", "all", "enumerate", "zip", "min", "max")
KEYWORDS = {
    "sorted": ("key", "reverse"), "min": ("key", "default"), "max": ("key", "default"), "sum": ("start",),
    "enumerate": ("start",), "zip": ("strict",),
}


def called(node):
    return node.func.id if isinstance(node, ast.Call) and isinstance(node.func, ast.Name) else None


def bound_names(tree):
    for node in ast.walk(tree):
        if isinstance(node, ast.Name) and isinstance(node.ctx, ast.Store):
            yield node.id
        elif isinstance(node, ast.arg):
            yield node.arg
        elif isinstance(node, (ast.FunctionDef, ast.ClassDef)):
            yield node.name
        elif isinstance(node, ast.alias):
            yield node.asname or node.name


def parsed_files():
    for path in FILES:
        text = path.read_bytes().decode("utf-8")
        yield path.name, text, ast.parse(text)


class Language(unittest.TestCase):
    def test_files_and_signs(self):
        for name, text, tree in parsed_files():
            with self.subTest(file=name):
                self.assertRegex(name, r"\A[a-z0-9_]+\.py\Z")
                self.assertRegex(text, r"\A[ -~\n]*\Z")
                self.assertLessEqual(text.count("\n"), 400)
                self.assertLessEqual(max(map(len, text.split("\n"))), 120)
                self.assertIsNone(re.search(WORDS, text))

    def test_imports(self):
        for name, text, tree in parsed_files():
            with self.subTest(file=name):
                for node in ast.walk(tree):
                    if isinstance(node, ast.ImportFrom):
                        self.assertIn(node, tree.body)
                        self.assertEqual(node.level, 0)
                        self.assertTrue(node.module.startswith("sandyard."))

    def test_functions_and_classes(self):
        for name, text, tree in parsed_files():
            with self.subTest(file=name):
                for node in ast.walk(tree):
                    if isinstance(node, ast.FunctionDef):
                        self.assertLessEqual(node.end_lineno - node.lineno + 1, 40)
                        self.assertFalse(node.args.vararg or node.args.kwarg or node.args.kwonlyargs)
                    if isinstance(node, (ast.FunctionDef, ast.ClassDef)):
                        self.assertEqual(node.decorator_list, [])

    def test_statements_and_values(self):
        for name, text, tree in parsed_files():
            with self.subTest(file=name):
                for node in ast.walk(tree):
                    self.assertNotIsInstance(node, RULED_OUT)
                    if isinstance(node, ast.Constant):
                        self.assertNotIsInstance(node.value, (float, bytes, complex))
                    if isinstance(node, ast.Assign):
                        self.assertEqual(len(node.targets), 1)
                    if isinstance(node, (ast.For, ast.While)):
                        self.assertEqual(node.orelse, [])
                    if isinstance(node, ast.ListComp):
                        self.assertEqual(len(node.generators), 1)
                        self.assertLessEqual(len(node.generators[0].ifs), 1)

    def test_names(self):
        for name, text, tree in parsed_files():
            with self.subTest(file=name):
                bound = set(bound_names(tree))
                for each in bound:
                    self.assertRegex(each, r"\A([A-Za-z][A-Za-z0-9_]*|__(init|eq|repr|str|len)__)\Z")
                    self.assertNotIn(each, BUILT_IN)
                for node in ast.walk(tree):
                    if isinstance(node, ast.Name):
                        self.assertIn(node.id, bound | BUILT_IN)

    def test_methods(self):
        for name, text, tree in parsed_files():
            with self.subTest(file=name):
                own = {node.name for node in ast.walk(tree) if isinstance(node, ast.FunctionDef)}
                for node in ast.walk(tree):
                    if isinstance(node, ast.Call) and isinstance(node.func, ast.Attribute):
                        self.assertIn(node.func.attr, METHODS | own)

    def test_no_local_is_called_like_something_of_pythons_own_or_of_the_files_imports(self):
        for name, text, tree in parsed_files():
            with self.subTest(file=name):
                taken = set(dir(builtins))
                for node in tree.body:
                    if isinstance(node, ast.ImportFrom):
                        taken.update(alias.name for alias in node.names)
                    if isinstance(node, ast.ClassDef):
                        taken.add(node.name)
                for node in ast.walk(tree):
                    if isinstance(node, ast.arg):
                        self.assertNotIn(node.arg, taken)
                    if isinstance(node, ast.Name) and isinstance(node.ctx, ast.Store):
                        self.assertNotIn(node.id, taken)

    def test_each_name_is_bound_once_at_the_top(self):
        for name, text, tree in parsed_files():
            with self.subTest(file=name):
                bound = []
                for node in tree.body:
                    if isinstance(node, (ast.FunctionDef, ast.ClassDef)):
                        bound.append(node.name)
                    elif isinstance(node, ast.ImportFrom):
                        bound.extend(alias.name for alias in node.names)
                    elif isinstance(node, ast.Assign):
                        bound.append(node.targets[0].id)
                    else:
                        self.assertIs(node, tree.body[0])
                        self.assertIsInstance(node, ast.Expr)
                self.assertEqual(len(bound), len(set(bound)))

    def test_names_come_from_the_file_that_defines_them(self):
        drawn_from = {}
        for name, text, tree in parsed_files():
            drawn_from["sandyard." + name[:-3]] = drawn = []
            for node in tree.body:
                if isinstance(node, ast.ImportFrom):
                    drawn.append(node.module)
                    for alias in node.names:
                        with self.subTest(file=name, name=alias.name):
                            self.assertIsNone(alias.asname)
                            value = getattr(importlib.import_module(node.module), alias.name)
                            self.assertEqual(getattr(value, "__module__", node.module), node.module)
        # Files that draw from no file left are taken away: where two draw from one another, some stay.
        while drawn_from:
            free = [file for file, drawn in drawn_from.items() if not set(drawn) & set(drawn_from)]
            self.assertNotEqual(free, [])
            for file in free:
                del drawn_from[file]

    def test_is_stands_beside_none_and_truths_alone(self):
        for name, text, tree in parsed_files():
            with self.subTest(file=name):
                for node in ast.walk(tree):
                    if isinstance(node, ast.Compare):
                        for sign, right in zip(node.ops, node.comparators):
                            if isinstance(sign, (ast.Is, ast.IsNot)):
                                self.assertIn(ast.unparse(right), ("None", "True", "False"))

    def test_keywords(self):
        for name, text, tree in parsed_files():
            with self.subTest(file=name):
                for node in ast.walk(tree):
                    if isinstance(node, ast.Call) and (called(node) is None or called(node) in BUILT_IN):
                        for keyword in node.keywords:
                            self.assertIn(keyword.arg, KEYWORDS.get(called(node), ()))

    def test_walked_at_once(self):
        for name, text, tree in parsed_files():
            with self.subTest(file=name):
                on_the_spot = []
                for node in ast.walk(tree):
                    if isinstance(node, (ast.For, ast.comprehension)):
                        on_the_spot.append(node.iter)
                    elif called(node) in WALKERS:
                        on_the_spot.extend(node.args)
                for node in ast.walk(tree):
                    if called(node) in WALKED:
                        self.assertIn(node, on_the_spot)

    def test_signs_within_texts(self):
        for name, text, tree in parsed_files():
            with self.subTest(file=name):
                for node in ast.walk(tree):
                    if isinstance(node, ast.Constant) and isinstance(node.value, str):
                        self.assertNotIn("%", node.value)
                self.assertIsNone(re.search(r"\\[^nt\\'\"]", text))

    def test_names_that_are_not_used(self):
        for name, text, tree in parsed_files():
            with self.subTest(file=name):
                for node in ast.walk(tree):
                    if isinstance(node, ast.Name):
                        self.assertNotIn(node.id, UNUSED_NAMES)
                    elif isinstance(node, ast.Attribute):
                        self.assertNotIn(node.attr, UNUSED_NAMES)

    def test_values_at_the_top_are_plain(self):
        for name, text, tree in parsed_files():
            with self.subTest(file=name):
                for node in tree.body:
                    if isinstance(node, ast.Assign):
                        # Narrower than the rule, but all that the package has.
                        self.assertIsInstance(node.value, ast.Constant)

    def test_no_annotations_sets_or_powers(self):
        for name, text, tree in parsed_files():
            with self.subTest(file=name):
                for node in ast.walk(tree):
                    self.assertNotIsInstance(node, (ast.AnnAssign, ast.Set, ast.Pow, ast.Lambda))
                    self.assertNotIn(called(node), ("set", "frozenset"))
                    if isinstance(node, ast.FunctionDef):
                        self.assertIsNone(node.returns)
                    if isinstance(node, ast.arg):
                        self.assertIsNone(node.annotation)
                    if isinstance(node, ast.FormattedValue):
                        self.assertIsInstance(node.value, ast.Name)
                        self.assertIsNone(node.format_spec)

    def test_pythons_own_are_called_and_not_kept(self):
        for name, text, tree in parsed_files():
            with self.subTest(file=name):
                called_here = []
                for node in ast.walk(tree):
                    if isinstance(node, ast.Call):
                        called_here.append(node.func)
                        if called(node) == "isinstance":
                            called_here.append(node.args[1])
                    elif isinstance(node, ast.ClassDef):
                        called_here.extend(node.bases)
                for node in ast.walk(tree):
                    if isinstance(node, ast.Attribute) or isinstance(node, ast.Name) and node.id in BUILT_IN:
                        self.assertIn(node, called_here)

    def test_errors_are_made_on_the_spot_and_taken_by_name(self):
        for name, text, tree in parsed_files():
            with self.subTest(file=name):
                for node in ast.walk(tree):
                    if isinstance(node, ast.Raise):
                        self.assertIsNotNone(called(node.exc))
                    if isinstance(node, ast.ExceptHandler):
                        self.assertIsNotNone(node.type)
                        self.assertNotIn(ast.unparse(node.type), ("Exception", "TypeError"))


if __name__ == "__main__":
    unittest.main()
