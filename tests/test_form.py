"""That the package keeps to the form of its language: what of the rules can be seen in the code."""

import ast
import pathlib
import re
import unittest

PACKAGE = pathlib.Path(__file__).resolve().parent.parent / "rulerow"

OWN_NAMES = set(
    "len range enumerate zip min max sum abs sorted reversed int str bool list tuple dict set frozenset isinstance"
    " ord repr any all divmod Exception ValueError TypeError KeyError IndexError LookupError ZeroDivisionError"
    " ArithmeticError OverflowError RuntimeError NotImplementedError AttributeError StopIteration".split()
)
OWN_METHODS = set(
    "append clear copy count endswith extend find get index insert isalnum isalpha isdigit islower isspace isupper"
    " items join keys ljust lower lstrip partition pop remove replace reverse rfind rjust rpartition rsplit rstrip"
    " setdefault split splitlines startswith strip update upper values zfill bit_length".split()
)
WORDS_NOWHERE = re.compile(
    r"\b(type|typing|typing_extensions|enum|Enum|IntEnum|StrEnum|Flag|IntFlag|Generic|Protocol|ABC|ABCMeta"
    r"|namedtuple|NamedTuple|TypedDict|TYPE_CHECKING|abstractmethod)\b|dataclass|overload|contextmanager"
)
NODES = (
    ast.Module, ast.ImportFrom, ast.alias, ast.FunctionDef, ast.ClassDef, ast.arguments, ast.arg, ast.Assign,
    ast.AugAssign, ast.If, ast.While, ast.For, ast.Return, ast.Break, ast.Continue, ast.Pass, ast.Raise, ast.Try,
    ast.ExceptHandler, ast.Expr, ast.Call, ast.keyword, ast.Attribute, ast.Subscript, ast.Slice, ast.Name,
    ast.Constant, ast.List, ast.Tuple, ast.Dict, ast.BinOp, ast.UnaryOp, ast.BoolOp, ast.Compare, ast.IfExp,
    ast.ListComp, ast.comprehension, ast.Lambda, ast.JoinedStr, ast.FormattedValue, ast.expr_context,
    ast.operator, ast.unaryop, ast.boolop, ast.cmpop,
)
NO_VALUES = set(
    "items keys values pop update append clear extend insert remove reverse setdefault sort args encode format".split()
)
METHODS_WITH_UNDERSCORES = ("__init__", "__eq__", "__repr__", "__str__", "__len__")


def files():
    return sorted(PACKAGE.glob("*.py"))


def trees():
    return [(path.name, ast.parse(path.read_text(encoding="utf-8"))) for path in files()]


def nodes():
    return [(name, node) for name, tree in trees() for node in ast.walk(tree)]


class TheForm(unittest.TestCase):
    def test_nothing_but_modules_lies_in_the_package(self):
        there = [path for path in PACKAGE.iterdir() if path.name != "__pycache__"]
        self.assertEqual(sorted(there), files())

    def test_signs_and_sizes(self):
        for path in files():
            text = path.read_text(encoding="utf-8")
            self.assertTrue(all(" " <= sign <= "~" or sign == "\n" for sign in text), path.name)
            self.assertLessEqual(len(text.splitlines()), 400, path.name)
            self.assertLessEqual(max(len(line) for line in text.splitlines()), 120, path.name)
            self.assertIsNone(WORDS_NOWHERE.search(text), path.name)

    def test_functions_have_at_most_40_lines(self):
        for name, node in nodes():
            if isinstance(node, ast.FunctionDef):
                self.assertLessEqual(node.end_lineno - node.lineno + 1, 40, (name, node.name))
                self.assertEqual(node.decorator_list, [])
                self.assertFalse(node.args.vararg or node.args.kwarg or node.args.kwonlyargs, (name, node.name))

    def test_only_plain_statements_and_expressions(self):
        for name, node in nodes():
            self.assertIsInstance(node, NODES, (name, getattr(node, "lineno", 0)))
            self.assertNotIsInstance(node, (ast.Div, ast.MatMult))
            if isinstance(node, ast.Constant):
                self.assertNotIsInstance(node.value, (float, complex, bytes))
            if isinstance(node, ast.Assign):
                self.assertEqual(len(node.targets), 1, (name, node.lineno))
            if isinstance(node, ast.ListComp):
                self.assertEqual(len(node.generators), 1, (name, node.lineno))
            if isinstance(node, (ast.For, ast.While)):
                self.assertEqual(node.orelse, [], (name, node.lineno))
            if isinstance(node, ast.Try):
                self.assertEqual(node.finalbody, [], (name, node.lineno))

    def test_imports_come_from_the_package_alone(self):
        for name, node in nodes():
            if isinstance(node, ast.ImportFrom):
                self.assertEqual(node.level, 0, (name, node.lineno))
                self.assertTrue(node.module.startswith("rulerow."), (name, node.lineno))
                source = (PACKAGE / (node.module.split(".")[1] + ".py")).read_text(encoding="utf-8")
                for alias in node.names:
                    self.assertRegex(source, rf"(?m)^(def|class) {alias.name}\b|^{alias.name} = ")

    def test_names(self):
        for file_name, tree in trees():
            bound = set()
            for node in ast.walk(tree):
                if isinstance(node, (ast.FunctionDef, ast.ClassDef)):
                    bound.add(node.name)
                elif isinstance(node, ast.arg):
                    bound.add(node.arg)
                elif isinstance(node, ast.alias):
                    bound.add(node.asname or node.name)
                elif isinstance(node, ast.Name) and isinstance(node.ctx, ast.Store):
                    bound.add(node.id)
            python_names = set(dir(__import__("builtins")))
            for name in bound - set(METHODS_WITH_UNDERSCORES):
                self.assertRegex(name, r"^[A-Za-z][A-Za-z0-9_]*$", file_name)
                self.assertNotIn(name, python_names, file_name)
            for node in ast.walk(tree):
                if isinstance(node, ast.Name) and isinstance(node.ctx, ast.Load):
                    self.assertIn(node.id, bound | OWN_NAMES, (file_name, node.lineno))

    def test_methods_are_the_listed_ones_or_own(self):
        own = {node.name for _, node in nodes() if isinstance(node, ast.FunctionDef)}
        for name, node in nodes():
            if isinstance(node, ast.Call) and isinstance(node.func, ast.Attribute):
                self.assertIn(node.func.attr, OWN_METHODS | own, (name, node.lineno))

    def test_no_name_is_both_a_method_and_a_value(self):
        methods = set()
        for _, node in nodes():
            if isinstance(node, ast.ClassDef):
                names = [part.name for part in node.body if isinstance(part, ast.FunctionDef)]
                self.assertEqual(len(names), len(set(names)), node.name)
                self.assertLessEqual(len(node.bases), 1, node.name)
                methods.update(names)
        for name, node in nodes():
            if isinstance(node, ast.Attribute) and isinstance(node.ctx, ast.Store):
                self.assertIsInstance(node.value, ast.Name, (name, node.lineno))
                self.assertNotIn(node.attr, methods | NO_VALUES, (name, node.lineno))

    def test_texts_hold_no_percent_sign(self):
        for name, node in nodes():
            if isinstance(node, ast.Constant) and isinstance(node.value, str):
                self.assertNotIn("%", node.value, (name, node.lineno))

    def test_classes_are_not_handed_on(self):
        classes = {node.name for _, node in nodes() if isinstance(node, ast.ClassDef)}
        for name, tree in trees():
            placed = [part for node in ast.walk(tree) for part in places_of_a_class(node)]
            for node in ast.walk(tree):
                if isinstance(node, ast.Name) and node.id in classes:
                    self.assertIn(node, placed, (name, node.lineno))


def places_of_a_class(node):
    """Where a class may stand: called, as a base, raised, taken, or asked for by isinstance."""
    if isinstance(node, ast.ClassDef):
        return node.bases
    if isinstance(node, ast.Call):
        asked = isinstance(node.func, ast.Name) and node.func.id == "isinstance"
        return [node.func] + (node.args[1:] if asked else [])
    if isinstance(node, ast.ExceptHandler):
        return [node.type]
    return []


if __name__ == "__main__":
    unittest.main()
