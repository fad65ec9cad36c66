"""Holds the package's files against the rules of ../shared/LANGUAGE.md that can be seen in a tree of Python."""

import ast
import re
import unittest
from pathlib import Path

PACKAGE = Path(__file__).resolve().parent.parent / "nearall"

STATEMENTS = (
    ast.Assign, ast.AugAssign, ast.If, ast.While, ast.For, ast.Return, ast.Break, ast.Continue, ast.Pass, ast.Raise,
    ast.Try, ast.Expr, ast.FunctionDef, ast.ClassDef, ast.ImportFrom,
)
EXPRESSIONS = (
    ast.Constant, ast.List, ast.Tuple, ast.Dict, ast.Set, ast.BinOp, ast.UnaryOp, ast.BoolOp, ast.Compare, ast.IfExp,
    ast.Call, ast.Attribute, ast.Subscript, ast.Slice, ast.ListComp, ast.JoinedStr, ast.FormattedValue, ast.Name,
    ast.Lambda,
)
PYTHONS_OWN = set(
    "len range enumerate zip min max sum abs sorted reversed int str bool list tuple dict set frozenset isinstance "
    "ord repr any all divmod Exception ValueError TypeError KeyError IndexError LookupError ZeroDivisionError "
    "ArithmeticError OverflowError RuntimeError NotImplementedError AttributeError StopIteration".split()
)
METHODS = set(
    "append clear copy count endswith extend find get index insert isalnum isalpha isdigit islower isspace isupper "
    "items join keys ljust lower lstrip partition pop remove replace reverse rfind rjust rpartition rsplit rstrip "
    "setdefault split splitlines startswith strip update upper values zfill bit_length".split()
)
FORBIDDEN_WORDS = re.compile(
    r"\b(type|typing|typing_extensions|enum|Enum|IntEnum|StrEnum|Flag|IntFlag|Generic|Protocol|ABC|ABCMeta"
    r"|namedtuple|NamedTuple|TypedDict|TYPE_CHECKING|abstractmethod)\b|dataclass|overload|contextmanager"
)
PLAIN_NAME = re.compile(r"^[A-Za-z][A-Za-z0-9_]*$")


def files():
    return sorted(path for path in PACKAGE.rglob("*") if "__pycache__" not in path.parts)


def bound_names(tree):
    for node in ast.walk(tree):
        if isinstance(node, (ast.FunctionDef, ast.ClassDef)):
            yield node.name
        elif isinstance(node, ast.arg):
            yield node.arg
        elif isinstance(node, ast.Name) and isinstance(node.ctx, ast.Store):
            yield node.id


def imported_names(tree):
    for node in ast.walk(tree):
        if isinstance(node, ast.ImportFrom):
            for name in node.names:
                yield name.name


class LanguageTest(unittest.TestCase):
    def setUp(self):
        self.trees = [(path, ast.parse(path.read_text("utf-8"))) for path in files()]

    def nodes(self, *kinds):
        for path, tree in self.trees:
            for node in ast.walk(tree):
                if isinstance(node, kinds):
                    yield f"{path.name}:{node.lineno}", node

    def test_files_and_signs(self):
        self.assertIn(PACKAGE / "__init__.py", files())
        for path in files():
            self.assertRegex(path.name, r"^(__init__|__main__|[a-z][a-z0-9_]*)\.py$")
            text = path.read_text("utf-8")
            self.assertRegex(text, r"\A[ -~\n]*\Z", path.name)
            self.assertNotRegex(text, FORBIDDEN_WORDS, path.name)
            rows = text.splitlines()
            self.assertLessEqual(len(rows), 400, path.name)
            self.assertLessEqual(max(len(row) for row in rows), 120, path.name)

    def test_statements_and_expressions(self):
        for where, node in self.nodes(ast.stmt):
            self.assertIsInstance(node, STATEMENTS, where)
        for where, node in self.nodes(ast.expr):
            self.assertIsInstance(node, EXPRESSIONS, where)
        for where, node in self.nodes(ast.Constant):
            self.assertIn(type(node.value), (int, str, bool, type(None)), where)
        for where, node in self.nodes(ast.BinOp, ast.AugAssign):
            self.assertNotIsInstance(node.op, (ast.Div, ast.MatMult), where)
        for where, node in self.nodes(ast.Assign):
            self.assertEqual(len(node.targets), 1, where)
        for where, node in self.nodes(ast.ListComp):
            self.assertEqual(len(node.generators), 1, where)
            self.assertLessEqual(len(node.generators[0].ifs), 1, where)
        for where, node in self.nodes(ast.For, ast.While):
            self.assertEqual(node.orelse, [], where)

    def test_functions(self):
        for where, node in self.nodes(ast.FunctionDef):
            self.assertLessEqual(node.end_lineno - node.lineno + 1, 40, where)
            self.assertEqual(node.decorator_list, [], where)
            given = node.args
            self.assertFalse(given.vararg or given.kwarg or given.kwonlyargs or given.posonlyargs, where)

    def test_imports(self):
        own = {f"nearall.{path.stem}" for path in files()}
        for where, node in self.nodes(ast.ImportFrom):
            self.assertEqual(node.level, 0, where)
            self.assertIn(node.module, own, where)
            self.assertTrue(all(name.name != "*" and name.asname is None for name in node.names), where)

    def test_no_two_files_draw_from_one_another(self):
        drawn = {
            f"nearall.{path.stem}": {node.module for node in ast.walk(tree) if isinstance(node, ast.ImportFrom)}
            for path, tree in self.trees
        }
        self.assertEqual(drawn["nearall.__init__"], set())
        left = dict(drawn)
        while left:
            free = [name for name in left if not left[name] & set(left)]
            self.assertTrue(free, f"these draw from one another: {sorted(left)}")
            for name in free:
                left.pop(name)

    def test_names(self):
        python = set(dir(__builtins__)) if not isinstance(__builtins__, dict) else set(__builtins__)
        for path, tree in self.trees:
            bound = set(bound_names(tree))
            for name in bound - {"__init__", "__eq__", "__repr__", "__str__", "__len__"}:
                self.assertRegex(name, PLAIN_NAME, path.name)
                self.assertNotIn(name, python, path.name)
            self.assertEqual(bound & set(imported_names(tree)), set(), path.name)
            known = bound | set(imported_names(tree)) | PYTHONS_OWN
            for node in ast.walk(tree):
                if isinstance(node, ast.Name) and isinstance(node.ctx, ast.Load):
                    self.assertIn(node.id, known, f"{path.name}:{node.lineno}")

    def test_methods_of_pythons_own_values(self):
        own = {node.name for _, node in self.nodes(ast.FunctionDef)}
        for where, node in self.nodes(ast.Call):
            if isinstance(node.func, ast.Attribute):
                self.assertIn(node.func.attr, METHODS | own, where)

    def test_is_stands_beside_none_true_and_false_alone(self):
        for where, node in self.nodes(ast.Compare):
            for sign, right in zip(node.ops, node.comparators):
                if isinstance(sign, (ast.Is, ast.IsNot)):
                    self.assertIn(ast.unparse(right), ("None", "True", "False"), where)


if __name__ == "__main__":
    unittest.main()
