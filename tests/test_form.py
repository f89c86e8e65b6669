"""The form of the package's files: the rules of the language's part that are quickly seen."""

import ast
import builtins
import pathlib
import re
import unittest

FOLDER = pathlib.Path(__file__).resolve().parent.parent / "wholeahead"
STATEMENTS = (
    ast.FunctionDef, ast.ClassDef, ast.ImportFrom, ast.Assign, ast.AugAssign, ast.If, ast.While, ast.For,
    ast.Return, ast.Break, ast.Continue, ast.Pass, ast.Raise, ast.Try,
)
NO_EXPRESSIONS = (
    ast.SetComp, ast.DictComp, ast.GeneratorExp, ast.NamedExpr, ast.Starred, ast.Div, ast.Await, ast.Yield,
    ast.YieldFrom, ast.MatMult,
)
NAMES = set(
    "len range enumerate zip min max sum abs sorted reversed int str bool list tuple dict set frozenset isinstance "
    "ord repr any all divmod Exception ValueError TypeError KeyError IndexError LookupError ZeroDivisionError "
    "ArithmeticError OverflowError RuntimeError NotImplementedError AttributeError StopIteration".split()
)
OWN_METHODS = set(
    "append clear copy count endswith extend find get index insert isalnum isalpha isdigit islower isspace isupper items "
    "join keys ljust lower lstrip partition pop remove replace reverse rfind rjust rpartition rsplit rstrip setdefault "
    "split splitlines startswith strip update upper values zfill bit_length".split()
)
METHODS = {"__init__", "__eq__", "__repr__", "__str__", "__len__"}
NO_WORDS = re.compile(
    r"\b(type|typing|typing_extensions|enum|Enum|IntEnum|StrEnum|Flag|IntFlag|Generic|Protocol|ABC|ABCMeta|namedtuple|"
    r"NamedTuple|TypedDict|TYPE_CHECKING|abstractmethod)\b|dataclass|overload|contextmanager"
)


def sources():
    return [(path.name, path.read_text(encoding="utf-8")) for path in sorted(FOLDER.glob("*.py"))]


def nodes():
    return [(name, node) for name, text in sources() for node in ast.walk(ast.parse(text))]


def trees():
    return [(name, ast.parse(text)) for name, text in sources()]


def classes():
    return [(name, node) for name, node in nodes() if isinstance(node, ast.ClassDef)]


def methods_of(node):
    return [part.name for part in node.body if isinstance(part, ast.FunctionDef)]


def values_of(node):
    found = [part for part in ast.walk(node) if isinstance(part, ast.Attribute) and isinstance(part.ctx, ast.Store)]
    return [part.attr for part in found]


def is_docstring(node):
    return isinstance(node, ast.Expr) and isinstance(node.value, ast.Constant) and isinstance(node.value.value, str)


def is_call(node):
    return isinstance(node, ast.Expr) and isinstance(node.value, ast.Call)


class Form(unittest.TestCase):
    def test_the_folder_holds_plain_files_alone(self):
        found = [path.name for path in FOLDER.iterdir() if path.name != "__pycache__"]
        self.assertIn("__init__.py", found)
        for name in found:
            self.assertRegex(name, r"^(__init__|__main__|[a-z][a-z0-9_]*)\.py$")

    def test_size_and_signs(self):
        for name, text in sources():
            self.assertRegex(text, r"^[ -~\n]*$", name)
            self.assertLessEqual(len(text.splitlines()), 400, name)
            self.assertLessEqual(max(map(len, text.splitlines())), 120, name)
            self.assertIsNone(NO_WORDS.search(text), name)

    def test_functions_are_short_and_plain(self):
        for name, node in nodes():
            if isinstance(node, ast.FunctionDef):
                self.assertLessEqual(node.end_lineno - node.lineno + 1, 40, (name, node.name))
                self.assertFalse(node.args.vararg or node.args.kwarg or node.args.kwonlyargs, (name, node.name))
                self.assertFalse(node.decorator_list, (name, node.name))

    def test_imports_are_the_packages_own(self):
        for name, node in nodes():
            if isinstance(node, ast.ImportFrom):
                self.assertEqual(node.level, 0, name)
                self.assertTrue(node.module.startswith("wholeahead."), name)
                self.assertNotIn("*", [part.name for part in node.names], name)

    def test_statements_and_expressions(self):
        for name, node in nodes():
            if isinstance(node, ast.stmt):
                self.assertTrue(isinstance(node, STATEMENTS) or is_docstring(node) or is_call(node), (name, node.lineno))
            self.assertNotIsInstance(node, NO_EXPRESSIONS, name)
            if isinstance(node, ast.comprehension):
                self.assertLessEqual(len(node.ifs), 1, name)
            if isinstance(node, ast.ListComp):
                self.assertEqual(len(node.generators), 1, (name, node.lineno))
            if isinstance(node, ast.Constant):
                self.assertNotIsInstance(node.value, (float, complex, bytes), name)

    def test_names(self):
        own = dir(builtins)
        for name, node in nodes():
            if isinstance(node, ast.Name):
                self.assertFalse(node.id.startswith("_"), (name, node.lineno))
                if node.id in own:
                    self.assertIn(node.id, NAMES, (name, node.lineno))
                    self.assertIsInstance(node.ctx, ast.Load, (name, node.lineno))
            if isinstance(node, (ast.FunctionDef, ast.ClassDef)) and node.name not in METHODS:
                self.assertRegex(node.name, r"^[A-Za-z][A-Za-z0-9_]*$", (name, node.lineno))
            if isinstance(node, ast.arg):
                self.assertNotIn(node.arg, own, (name, node.lineno))

    def test_locals_are_not_called_like_a_class_or_an_import(self):
        for name, tree in trees():
            taken = [part.name for part in tree.body if isinstance(part, ast.ClassDef)]
            for part in tree.body:
                if isinstance(part, ast.ImportFrom):
                    taken += [imported.name for imported in part.names]
            for node in ast.walk(tree):
                if isinstance(node, ast.Name) and isinstance(node.ctx, ast.Store):
                    self.assertNotIn(node.id, taken, (name, node.lineno))
                if isinstance(node, ast.arg):
                    self.assertNotIn(node.arg, taken, (name, node.lineno))

    def test_each_name_is_bound_once_at_a_files_top(self):
        for name, tree in trees():
            bound = []
            for part in tree.body:
                if isinstance(part, (ast.FunctionDef, ast.ClassDef)):
                    bound.append(part.name)
                if isinstance(part, ast.ImportFrom):
                    bound += [imported.name for imported in part.names]
            self.assertEqual(len(bound), len(set(bound)), name)

    def test_names_are_drawn_from_the_file_that_defines_them_and_not_round(self):
        defined = {}
        drawn = {}
        for name, tree in trees():
            kinds = (ast.FunctionDef, ast.ClassDef)
            module = "wholeahead." + name[:-3]
            defined[module] = [part.name for part in tree.body if isinstance(part, kinds)]
            drawn[module] = [part for part in tree.body if isinstance(part, ast.ImportFrom)]
        for module, imports in drawn.items():
            for part in imports:
                for imported in part.names:
                    self.assertIn(imported.name, defined[part.module], module)
        left = dict(drawn)
        while left:
            free = [module for module in left if not any(part.module in left for part in left[module])]
            self.assertTrue(free, left)
            for module in free:
                del left[module]

    def test_classes_hold_methods_alone_and_no_name_is_a_method_and_a_value(self):
        methods = [method for name, node in classes() for method in methods_of(node)]
        values = [value for name, node in classes() for value in values_of(node)]
        self.assertFalse(set(methods) & set(values))
        for name, node in classes():
            self.assertLessEqual(len(node.bases), 1, (name, node.name))
            self.assertFalse(node.decorator_list or node.keywords, (name, node.name))
            self.assertEqual(len(methods_of(node)), len(set(methods_of(node))), (name, node.name))
            for part in node.body:
                self.assertIsInstance(part, (ast.FunctionDef, ast.Pass), (name, node.name))

    def test_methods_that_are_called(self):
        own = [method for name, node in classes() for method in methods_of(node)]
        for name, node in nodes():
            if isinstance(node, ast.Call) and isinstance(node.func, ast.Attribute):
                self.assertIn(node.func.attr, OWN_METHODS | set(own), (name, node.lineno))

    def test_is_stands_beside_none_true_and_false_alone(self):
        for name, node in nodes():
            if isinstance(node, ast.Compare):
                for sign, right in zip(node.ops, node.comparators):
                    if isinstance(sign, (ast.Is, ast.IsNot)):
                        self.assertIsInstance(right, ast.Constant, (name, node.lineno))
                        self.assertIn(right.value, (None, True, False), (name, node.lineno))

    def test_what_is_walked_at_once_is_not_kept(self):
        for name, node in nodes():
            if isinstance(node, (ast.Assign, ast.Return)) and isinstance(node.value, ast.Call):
                called = node.value.func
                if isinstance(called, ast.Name):
                    self.assertNotIn(called.id, ("zip", "enumerate", "reversed", "range", "set"), (name, node.lineno))

    def test_one_target_in_an_assignment(self):
        for name, node in nodes():
            if isinstance(node, ast.Assign):
                self.assertEqual(len(node.targets), 1, (name, node.lineno))
                self.assertIsInstance(node.targets[0], (ast.Name, ast.Attribute, ast.Subscript), (name, node.lineno))


if __name__ == "__main__":
    unittest.main()
