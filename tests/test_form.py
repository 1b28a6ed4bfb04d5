"""The form of the package's own files, as far as a test sees it at once."""

import ast
import builtins
import pathlib
import re
import unittest

PACKAGE = pathlib.Path(__file__).resolve().parent.parent / "mixedscales"
NOT_USED = (
    ast.With, ast.Match, ast.Delete, ast.Global, ast.Nonlocal, ast.Assert, ast.Yield, ast.YieldFrom, ast.Await,
    ast.AsyncFunctionDef, ast.AsyncFor, ast.AsyncWith, ast.SetComp, ast.DictComp, ast.GeneratorExp,
    ast.NamedExpr, ast.Starred, ast.Import, ast.Div, ast.AnnAssign,
)
WORDS = (
    "type", "typing", "typing_extensions", "enum", "Enum", "IntEnum", "StrEnum", "Flag", "IntFlag", "Generic",
    "Protocol", "ABC", "ABCMeta", "namedtuple", "NamedTuple", "TypedDict", "TYPE_CHECKING", "abstractmethod",
)
PARTS = ("dataclass", "overload", "contextmanager")
OWN_NAMES = (
    "len range enumerate zip min max sum abs sorted reversed int str bool list tuple dict set frozenset isinstance ord "
    "repr any all divmod Exception ValueError TypeError KeyError IndexError LookupError ZeroDivisionError "
    "ArithmeticError OverflowError RuntimeError NotImplementedError AttributeError StopIteration"
).split()
METHODS = (
    "append clear copy count endswith extend find get index insert isalnum isalpha isdigit islower isspace isupper "
    "items join keys ljust lower lstrip partition pop remove replace reverse rfind rjust rpartition rsplit rstrip "
    "setdefault split splitlines startswith strip update upper values zfill bit_length __init__"
).split()
WALKED = ("zip", "enumerate", "reversed", "range")
WALKERS = ("list", "tuple", "dict", "sorted", "sum", "any", "all", "enumerate", "zip", "min", "max")
OWN_METHODS = ("__init__", "__eq__", "__repr__", "__str__", "__len__")


def files():
    return sorted(path for path in PACKAGE.iterdir() if path.name != "__pycache__")


def nodes(path):
    return list(ast.walk(ast.parse(path.read_text(encoding="ascii"))))


class FormTest(unittest.TestCase):
    def test_files_and_signs(self):
        self.assertTrue((PACKAGE / "__init__.py").is_file())
        for path in files():
            with self.subTest(path=path.name):
                self.assertRegex(path.name, r"^[a-z0-9_]+\.py$")
                self.assertRegex(path.read_bytes().decode("utf-8"), r"^[ -~\n]*$")

    def test_size(self):
        for path in files():
            lines = path.read_text(encoding="ascii").split("\n")
            self.assertLessEqual(len(lines), 400, path.name)
            self.assertLessEqual(max(len(line) for line in lines), 120, path.name)
            for node in nodes(path):
                if isinstance(node, ast.FunctionDef):
                    self.assertLessEqual(node.end_lineno - node.lineno + 1, 40, (path.name, node.name))

    def test_words(self):
        for path in files():
            text = path.read_text(encoding="ascii")
            for word in WORDS:
                self.assertIsNone(re.search(rf"\b{word}\b", text), (path.name, word))
            for part in PARTS:
                self.assertNotIn(part, text, path.name)

    def test_statements_and_expressions(self):
        for path in files():
            for node in nodes(path):
                with self.subTest(path=path.name, line=getattr(node, "lineno", 0)):
                    self.assertNotIsInstance(node, NOT_USED)
                    self.assertEqual(getattr(node, "decorator_list", []), [])
                    if isinstance(node, (ast.For, ast.While)):
                        self.assertEqual(node.orelse, [])
                    if isinstance(node, ast.Try):
                        self.assertEqual(node.finalbody, [])
                    if isinstance(node, ast.Assign):
                        self.assertEqual(len(node.targets), 1)
                    if isinstance(node, ast.Constant):
                        self.assertNotIsInstance(node.value, (float, complex, bytes))

    def test_imports(self):
        for path in files():
            for node in nodes(path):
                if isinstance(node, ast.ImportFrom):
                    self.assertEqual(node.level, 0, path.name)
                    self.assertRegex(node.module, r"^mixedscales\.[a-z0-9_]+$", path.name)
                    self.assertNotIn("*", [alias.name for alias in node.names], path.name)

    def test_names(self):
        for path in files():
            for node in nodes(path):
                name = getattr(node, "name", None) or getattr(node, "id", None) or getattr(node, "attr", None)
                name = name or getattr(node, "arg", None)
                if isinstance(name, str) and name not in OWN_METHODS:
                    self.assertFalse(name.startswith("_"), (path.name, name))

    def test_names_of_pythons_own(self):
        for path in files():
            for node in nodes(path):
                if not isinstance(node, ast.Name) or node.id not in vars(builtins):
                    continue
                with self.subTest(path=path.name, line=node.lineno):
                    self.assertIn(node.id, OWN_NAMES)
                    self.assertIsInstance(node.ctx, ast.Load)

    def test_no_name_is_called_like_pythons_own(self):
        for path in files():
            for node in nodes(path):
                if isinstance(node, (ast.FunctionDef, ast.ClassDef)):
                    self.assertNotIn(node.name, vars(builtins), (path.name, node.name))
                if isinstance(node, ast.arg):
                    self.assertNotIn(node.arg, vars(builtins), (path.name, node.arg))

    def test_only_written_exponents(self):
        for path in files():
            for node in nodes(path):
                if isinstance(node, (ast.BinOp, ast.AugAssign)) and isinstance(node.op, ast.Pow):
                    exponent = node.right if isinstance(node, ast.BinOp) else node.value
                    self.assertIsInstance(exponent, ast.Constant, (path.name, node.lineno))
                    self.assertIn(exponent.value, range(65), (path.name, node.lineno))

    def test_sets_only_counted_sorted_or_asked(self):
        for path in files():
            every = nodes(path)
            asked = [part for node in every if isinstance(node, ast.Compare) for part in node.comparators + [node.left]]
            for node in every:
                if isinstance(node, ast.Call) and isinstance(node.func, ast.Name) and node.func.id in ("len", "sorted"):
                    asked.extend(node.args)
            for node in every:
                self.assertNotIsInstance(node, ast.Set, path.name)
                if isinstance(node, ast.Call) and isinstance(node.func, ast.Name) and node.func.id == "set":
                    self.assertIn(node, asked, (path.name, node.lineno))

    def test_one_for_in_a_comprehension(self):
        for path in files():
            for node in nodes(path):
                if isinstance(node, ast.ListComp):
                    self.assertEqual(len(node.generators), 1, (path.name, node.lineno))
                    self.assertLessEqual(len(node.generators[0].ifs), 1, (path.name, node.lineno))

    def test_is_beside_none_and_truths_alone(self):
        for path in files():
            for node in nodes(path):
                if isinstance(node, ast.Compare):
                    for operator, right in zip(node.ops, node.comparators):
                        if isinstance(operator, (ast.Is, ast.IsNot)):
                            self.assertIsInstance(right, ast.Constant, (path.name, node.lineno))
                            self.assertIn(right.value, (None, True, False), (path.name, node.lineno))

    def test_no_two_files_draw_from_one_another(self):
        drawn = {}
        for path in files():
            modules = [node.module for node in nodes(path) if isinstance(node, ast.ImportFrom)]
            drawn[path.stem] = {module.split(".")[1] for module in modules}
        while drawn:
            free = [name for name in drawn if not drawn[name] & set(drawn)]
            self.assertNotEqual(free, [], drawn)
            for name in free:
                del drawn[name]

    def test_methods(self):
        for path in files():
            for node in nodes(path):
                if isinstance(node, ast.Call) and isinstance(node.func, ast.Attribute):
                    self.assertIn(node.func.attr, METHODS, (path.name, node.lineno))

    def test_walked_at_once(self):
        for path in files():
            every = nodes(path)
            walked = [node.iter for node in every if isinstance(node, (ast.For, ast.comprehension))]
            for node in every:
                if isinstance(node, ast.Call) and isinstance(node.func, ast.Name) and node.func.id in WALKERS:
                    walked.extend(node.args if node.func.id == "zip" else node.args[:1])
            for node in every:
                if isinstance(node, ast.Call) and isinstance(node.func, ast.Name) and node.func.id in WALKED:
                    self.assertIn(node, walked, (path.name, node.lineno))


if __name__ == "__main__":
    unittest.main()
