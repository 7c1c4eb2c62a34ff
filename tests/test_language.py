"""The part of Python that the package keeps to, as far as a walk over its files can see it."""

import ast
import builtins
import pathlib
import re
import unittest

FOLDER = pathlib.Path(__file__).resolve().parent.parent / "sameapart"
FILES = sorted(FOLDER.glob("*.py"))

BUILTINS = set(
    "len range enumerate zip min max sum abs sorted reversed int str bool list tuple dict set frozenset isinstance "
    "ord repr any all divmod Exception ValueError TypeError KeyError IndexError LookupError ZeroDivisionError "
    "ArithmeticError OverflowError RuntimeError NotImplementedError AttributeError StopIteration".split()
)
METHODS = set(
    "append clear copy count endswith extend find get index insert isalnum isalpha isdigit islower isspace isupper "
    "items join keys ljust lower lstrip partition pop remove replace reverse rfind rjust rpartition rsplit rstrip "
    "setdefault split splitlines startswith strip update upper values zfill bit_length".split()
)
WORDS = re.compile(
    r"\b(type|typing|typing_extensions|enum|Enum|IntEnum|StrEnum|Flag|IntFlag|Generic|Protocol|ABC|ABCMeta|namedtuple"
    r"|NamedTuple|TypedDict|TYPE_CHECKING|abstractmethod)\b|dataclass|overload|contextmanager"
)
NODES = (
    ast.Module, ast.FunctionDef, ast.ClassDef, ast.ImportFrom, ast.alias, ast.arguments, ast.arg, ast.Lambda,
    ast.Assign, ast.AugAssign, ast.If, ast.While, ast.For, ast.Return, ast.Break, ast.Continue, ast.Pass, ast.Raise,
    ast.Try, ast.ExceptHandler, ast.Expr, ast.Constant, ast.List, ast.Tuple, ast.Dict, ast.Set, ast.BinOp, ast.UnaryOp,
    ast.BoolOp, ast.Compare, ast.IfExp, ast.Call, ast.keyword, ast.Attribute, ast.Subscript, ast.Slice, ast.ListComp,
    ast.comprehension, ast.JoinedStr, ast.FormattedValue, ast.Name, ast.expr_context, ast.operator, ast.unaryop,
    ast.boolop, ast.cmpop,
)
BARRED = (ast.Div, ast.MatMult)


def nodes_of(tree, kind):
    return [node for node in ast.walk(tree) if isinstance(node, kind)]


class LanguageTest(unittest.TestCase):
    def in_each_file(self, look):
        self.assertIn("__init__.py", [path.name for path in FILES])
        for path in FILES:
            with self.subTest(path.name):
                text = path.read_bytes().decode("ascii")
                look(text, ast.parse(text))

    def test_nothing_else_lies_in_the_package(self):
        for path in FOLDER.iterdir():
            if path.name != "__pycache__":
                self.assertRegex(path.name, r"\A([a-z][a-z0-9_]*|__init__)\.py\Z")

    def test_signs_and_words(self):
        def look(text, tree):
            self.assertRegex(text, r"\A[ -~\n]*\Z")
            self.assertIsNone(WORDS.search(text))
            for node in nodes_of(tree, ast.Constant):
                self.assertIn(type(node.value), (int, str, bool, type(None)))
                self.assertNotIn("%", str(node.value))

        self.in_each_file(look)

    def test_sizes(self):
        def look(text, tree):
            lines = text.split("\n")
            self.assertLessEqual(len(lines), 400)
            self.assertLessEqual(max([len(line) for line in lines]), 120)
            for node in nodes_of(tree, ast.FunctionDef):
                self.assertLessEqual(node.end_lineno - node.lineno + 1, 40)

        self.in_each_file(look)

    def test_forms(self):
        def look(text, tree):
            for node in ast.walk(tree):
                self.assertIsInstance(node, NODES)
                self.assertNotIsInstance(node, BARRED)
            for node in nodes_of(tree, (ast.For, ast.While)):
                self.assertEqual(node.orelse, [])
            for node in nodes_of(tree, ast.ListComp):
                self.assertEqual(len(node.generators), 1)
                self.assertLessEqual(len(node.generators[0].ifs), 1)
            for node in nodes_of(tree, ast.Assign):
                self.assertEqual(len(node.targets), 1)

        self.in_each_file(look)

    def test_imports(self):
        def look(text, tree):
            for node in nodes_of(tree, ast.ImportFrom):
                self.assertIn(node, tree.body)
                self.assertEqual(node.level, 0)
                self.assertRegex(node.module, r"\Asameapart\.[a-z0-9_]+\Z")
                self.assertNotIn("*", [name.name for name in node.names])

        self.in_each_file(look)

    def test_names(self):
        def look(text, tree):
            bound = [node.name for node in nodes_of(tree, (ast.FunctionDef, ast.ClassDef))]
            bound += [node.arg for node in nodes_of(tree, ast.arg)]
            bound += [node.id for node in nodes_of(tree, ast.Name) if isinstance(node.ctx, ast.Store)]
            drawn = [name.name for node in nodes_of(tree, ast.ImportFrom) for name in node.names]
            self.assertEqual(sorted(set(bound) & set(drawn)), [])
            for name in bound:
                self.assertFalse(name.startswith("_"), name)
                self.assertFalse(hasattr(builtins, name), name)
            for node in nodes_of(tree, ast.Name):
                if hasattr(builtins, node.id):
                    self.assertIn(node.id, BUILTINS)

        self.in_each_file(look)

    def test_methods(self):
        def look(text, tree):
            for node in nodes_of(tree, ast.Attribute):
                self.assertIn(node.attr, METHODS)

        self.in_each_file(look)


if __name__ == "__main__":
    unittest.main()
