"""The rules of LANGUAGE.md that can be read off the package's own files.

It holds the package to less than the rules allow (no import, class, try or set), for it needs no more;
widen it where a later call does.
"""

import ast
import builtins
import pathlib
import re
import unittest

PACKAGE = pathlib.Path(__file__).resolve().parent.parent / "lastcoins"

STATEMENTS = (
    ast.FunctionDef, ast.Assign, ast.AugAssign, ast.If, ast.While, ast.For, ast.Return,
    ast.Break, ast.Continue, ast.Pass, ast.Expr,
)
EXPRESSIONS = (
    ast.Constant, ast.Name, ast.List, ast.Tuple, ast.Dict, ast.BinOp, ast.UnaryOp, ast.BoolOp, ast.Compare,
    ast.IfExp, ast.Call, ast.Attribute, ast.Subscript, ast.Slice, ast.ListComp, ast.Lambda,
)
OWN_NAMES = (
    "len", "range", "enumerate", "zip", "min", "max", "sum", "abs", "sorted", "reversed", "int", "str", "bool",
    "list", "tuple", "dict", "isinstance", "repr", "any", "all", "divmod",
)
METHODS = ("append", "copy", "count", "extend", "get", "index", "insert", "items", "keys", "pop", "reverse", "values")
WORDS_NOT_USED = re.compile(
    r"\b(type|typing|typing_extensions|enum|Enum|IntEnum|StrEnum|Flag|IntFlag|Generic|Protocol|ABC|ABCMeta|"
    r"namedtuple|NamedTuple|TypedDict|TYPE_CHECKING|abstractmethod)\b|dataclass|overload|contextmanager"
)


def is_plain(node):
    if isinstance(node, (ast.List, ast.Tuple)):
        return all(is_plain(one) for one in node.elts)
    if isinstance(node, ast.UnaryOp):
        return isinstance(node.op, ast.USub) and is_plain(node.operand)
    return isinstance(node, ast.Constant)


def bound_names(tree):
    for node in ast.walk(tree):
        if isinstance(node, ast.FunctionDef):
            yield node.name
        elif isinstance(node, ast.arg):
            yield node.arg
        elif isinstance(node, ast.Name) and isinstance(node.ctx, ast.Store):
            yield node.id


class LanguageTest(unittest.TestCase):
    def setUp(self):
        self.texts = {path: path.read_text("ascii") for path in sorted(PACKAGE.glob("*.py"))}
        self.trees = {path: ast.parse(text) for path, text in self.texts.items()}
        self.nodes = [(path.name, node) for path, tree in self.trees.items() for node in ast.walk(tree)]

    def test_files(self):
        found = [path.name for path in PACKAGE.iterdir() if path.name != "__pycache__"]
        self.assertEqual(sorted(found), ["__init__.py", "shares.py"])

    def test_signs_and_sizes(self):
        for path, text in self.texts.items():
            self.assertRegex(text, r"\A[ -~\n]*\Z", path)
            self.assertLessEqual(len(text.splitlines()), 400, path)
            self.assertLessEqual(max(len(line) for line in text.splitlines()), 120, path)
            self.assertIsNone(WORDS_NOT_USED.search(text), path)
        for name, node in self.nodes:
            if isinstance(node, ast.FunctionDef):
                self.assertLessEqual(node.end_lineno - node.lineno + 1, 40, (name, node.name))

    def test_top_of_the_files(self):
        for path, tree in self.trees.items():
            self.assertIsNotNone(ast.get_docstring(tree), path)
            names = []
            for node in tree.body[1:]:
                self.assertIsInstance(node, (ast.FunctionDef, ast.Assign), path)
                if isinstance(node, ast.Assign):
                    self.assertTrue(is_plain(node.value), (path, node.lineno))
                names.append(node.name if isinstance(node, ast.FunctionDef) else node.targets[0].id)
            self.assertEqual(len(names), len(set(names)), path)

    def test_forms(self):
        for name, node in self.nodes:
            where = (name, getattr(node, "lineno", 0), ast.dump(node)[:80])
            if isinstance(node, ast.stmt):
                self.assertIsInstance(node, STATEMENTS, where)
            if isinstance(node, ast.expr):
                self.assertIsInstance(node, EXPRESSIONS, where)
            if isinstance(node, ast.operator):
                self.assertNotIsInstance(node, (ast.Div, ast.MatMult, ast.Pow), where)
            if isinstance(node, ast.cmpop):
                self.assertNotIsInstance(node, (ast.Is, ast.IsNot), where)
            if isinstance(node, ast.arg):
                self.assertIsNone(node.annotation, where)
            if isinstance(node, ast.Constant):
                self.assertNotIsInstance(node.value, (float, complex, bytes), where)
                self.assertNotIn("%", str(node.value), where)
            if isinstance(node, ast.Assign):
                self.assertEqual(len(node.targets), 1, where)
            if isinstance(node, (ast.For, ast.While)):
                self.assertEqual(node.orelse, [], where)
            if isinstance(node, ast.ListComp):
                self.assertEqual(len(node.generators), 1, where)
                self.assertLessEqual(len(node.generators[0].ifs), 1, where)
            if isinstance(node, ast.FunctionDef):
                self.assertEqual((node.decorator_list, node.returns), ([], None), where)
            if isinstance(node, ast.arguments):
                self.assertEqual((node.vararg, node.kwarg, node.kwonlyargs, node.posonlyargs), (None, None, [], []))

    def test_names(self):
        for path, tree in self.trees.items():
            bound = set(bound_names(tree))
            for name in bound:
                self.assertRegex(name, r"\A[A-Za-z][A-Za-z0-9_]*\Z", path)
                self.assertFalse(hasattr(builtins, name), (path, name))
            for node in ast.walk(tree):
                if isinstance(node, ast.Name):
                    self.assertTrue(node.id in bound or node.id in OWN_NAMES, (path, node.lineno, node.id))
                if isinstance(node, ast.Attribute):
                    self.assertIn(node.attr, METHODS, (path, node.lineno))
