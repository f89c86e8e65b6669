"""The form of the package's files: the rules of the language's part that are quickly seen."""

import ast
import builtins
import pathlib
import re
import unittest

FOLDER = pathlib.Path(__file__).resolve().parent.parent / "wholeahead"
STATEMENTS = (
    ast.FunctionDef, ast.ClassDef, ast.ImportFrom, ast.Assign, ast.AugAssign, ast.If, ast.While, ast.For,
    ast.Return, ast.Break, ast.Continue, ast.Pass, ast.Raise, ast.Try,
)
NO_EXPRESSIONS = (
    ast.SetComp, ast.DictComp, ast.GeneratorExp, ast.NamedExpr, ast.Starred, ast.Div, ast.Await, ast.Yield,
    ast.YieldFrom, ast.MatMult,
)
NAMES = set(
    "len range enumerate zip min max sum abs sorted reversed int str bool list tuple dict set frozenset isinstance "
    "ord repr any all divmod Exception ValueError TypeError KeyError IndexError LookupError ZeroDivisionError "
    "ArithmeticError OverflowError RuntimeError NotImplementedError AttributeError StopIteration".split()
)
METHODS = {"__init__", "__eq__", "__repr__", "__str__", "__len__"}
NO_WORDS = re.compile(
    r"\b(type|typing|typing_extensions|enum|Enum|IntEnum|StrEnum|Flag|IntFlag|Generic|Protocol|ABC|ABCMeta|namedtuple|"
    r"NamedTuple|TypedDict|TYPE_CHECKING|abstractmethod)\b|dataclass|overload|contextmanager"
)


def sources():
    return [(path.name, path.read_text(encoding="utf-8")) for path in sorted(FOLDER.glob("*.py"))]


def nodes():
    return [(name, node) for name, text in sources() for node in ast.walk(ast.parse(text))]


def is_docstring(node):
    return isinstance(node, ast.Expr) and isinstance(node.value, ast.Constant) and isinstance(node.value.value, str)


def is_call(node):
    return isinstance(node, ast.Expr) and isinstance(node.value, ast.Call)


class Form(unittest.TestCase):
    def test_the_folder_holds_plain_files_alone(self):
        found = [path.name for path in FOLDER.iterdir() if path.name != "__pycache__"]
        self.assertIn("__init__.py", found)
        for name in found:
            self.assertRegex(name, r"^(__init__|__main__|[a-z][a-z0-9_]*)\.py$")

    def test_size_and_signs(self):
        for name, text in sources():
            self.assertRegex(text, r"^[ -~\n]*$", name)
            self.assertLessEqual(len(text.splitlines()), 400, name)
            self.assertLessEqual(max(map(len, text.splitlines())), 120, name)
            self.assertIsNone(NO_WORDS.search(text), name)

    def test_functions_are_short_and_plain(self):
        for name, node in nodes():
            if isinstance(node, ast.FunctionDef):
                self.assertLessEqual(node.end_lineno - node.lineno + 1, 40, (name, node.name))
                self.assertFalse(node.args.vararg or node.args.kwarg or node.args.kwonlyargs, (name, node.name))
                self.assertFalse(node.decorator_list, (name, node.name))

    def test_imports_are_the_packages_own(self):
        for name, node in nodes():
            if isinstance(node, ast.ImportFrom):
                self.assertEqual(node.level, 0, name)
                self.assertTrue(node.module.startswith("wholeahead."), name)
                self.assertNotIn("*", [part.name for part in node.names], name)

    def test_statements_and_expressions(self):
        for name, node in nodes():
            if isinstance(node, ast.stmt):
                self.assertTrue(isinstance(node, STATEMENTS) or is_docstring(node) or is_call(node), (name, node.lineno))
            self.assertNotIsInstance(node, NO_EXPRESSIONS, name)
            if isinstance(node, ast.comprehension):
                self.assertLessEqual(len(node.ifs), 1, name)
            if isinstance(node, ast.ListComp):
                self.assertEqual(len(node.generators), 1, (name, node.lineno))
            if isinstance(node, ast.Constant):
                self.assertNotIsInstance(node.value, (float, complex, bytes), name)

    def test_names(self):
        own = dir(builtins)
        for name, node in nodes():
            if isinstance(node, ast.Name):
                self.assertFalse(node.id.startswith("_"), (name, node.lineno))
                if node.id in own:
                    self.assertIn(node.id, NAMES, (name, node.lineno))
                    self.assertIsInstance(node.ctx, ast.Load, (name, node.lineno))
            if isinstance(node, (ast.FunctionDef, ast.ClassDef)) and node.name not in METHODS:
                self.assertRegex(node.name, r"^[A-Za-z][A-Za-z0-9_]*$", (name, node.lineno))
            if isinstance(node, ast.arg):
                self.assertNotIn(node.arg, own, (name, node.lineno))


if __name__ == "__main__":
    unittest.main()
