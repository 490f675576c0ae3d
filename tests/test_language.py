"""The package's files keep to the part of Python that the program is written in.

What can be seen from a file alone is looked at here, by the rules' numbers.
"""

import ast
import pathlib
import re
import unittest

ROOT = pathlib.Path(__file__).resolve().parent.parent
PACKAGE = ROOT / "keptseats"

BUILTINS = set(
    "len range enumerate zip min max sum abs sorted reversed int str bool list tuple dict set frozenset isinstance "
    "ord repr any all divmod Exception ValueError TypeError KeyError IndexError LookupError ZeroDivisionError "
    "ArithmeticError OverflowError RuntimeError NotImplementedError AttributeError StopIteration".split()
)
METHODS = set(
    "append clear copy count endswith extend find get index insert isalnum isalpha isdigit islower isspace isupper "
    "items join keys ljust lower lstrip partition pop remove replace reverse rfind rjust rpartition rsplit rstrip "
    "setdefault split splitlines startswith strip update upper values zfill bit_length".split()
)
NODES = set(
    "Module Expr Constant ImportFrom alias FunctionDef arguments arg ClassDef Assign AugAssign If While For Return "
    "Break Continue Pass Raise Try ExceptHandler Name Load Store Attribute Subscript Slice Call keyword List Tuple "
    "Dict BinOp Add Sub Mult FloorDiv Mod Pow BitAnd BitOr BitXor LShift RShift UnaryOp USub Not Invert BoolOp And "
    "Or Compare Eq NotEq Lt LtE Gt GtE In NotIn Is IsNot IfExp ListComp comprehension Lambda JoinedStr "
    "FormattedValue".split()
)
OWN_DUNDERS = {"__init__", "__eq__", "__repr__", "__str__", "__len__"}
WORDS = (
    r"\b(type|typing|typing_extensions|enum|Enum|IntEnum|StrEnum|Flag|IntFlag|Generic|Protocol|ABC|ABCMeta|"
    r"namedtuple|NamedTuple|TypedDict|TYPE_CHECKING|abstractmethod)\b|dataclass|overload|contextmanager"
)
UNUSED = set(
    "register mro elements open input version_info with_traceback add_note attrgetter breakpoint builtins compile "
    "copyright credits delattr dir eval exec exit gc getattr globals hasattr help id importlib license locals "
    "methodcaller os quit setattr super sys vars chr print".split()
)


def sources():
    return sorted(PACKAGE.rglob("*.py"))


def trees():
    return [(path, ast.parse(path.read_text())) for path in sources()]


def nodes(kind):
    return [(path, node) for path, tree in trees() for node in ast.walk(tree) if isinstance(node, kind)]


class Files(unittest.TestCase):
    def test_l1_l14_only_python_files(self):
        self.assertIn(PACKAGE / "__init__.py", sources())
        for path in PACKAGE.rglob("*"):
            if "__pycache__" not in path.parts:
                self.assertTrue(path.is_dir() or re.fullmatch(r"[a-z_][a-z0-9_]*\.py", path.name), path)

    def test_l10_l14_signs_and_sizes(self):
        for path in sources():
            text = path.read_bytes().decode("ascii")
            self.assertEqual([sign for sign in text if not (" " <= sign <= "~" or sign == "\n")], [], path)
            lines = text.split("\n")
            self.assertLessEqual(len(lines), 400, path)
            self.assertLessEqual(max(len(line) for line in lines), 120, path)

    def test_l10_functions(self):
        for path, node in nodes(ast.FunctionDef):
            self.assertLessEqual(node.end_lineno - node.lineno + 1, 40, (path, node.name))

    def test_l17_words(self):
        for path in sources():
            self.assertIsNone(re.search(WORDS, path.read_text()), path)


class Forms(unittest.TestCase):
    def test_l6_l7_kinds_of_statements_and_values(self):
        for path, node in nodes(ast.AST):
            kind = node.__class__.__name__
            self.assertIn(kind, NODES, (path, getattr(node, "lineno", None)))
            if kind == "Constant":
                self.assertNotIsInstance(node.value, (float, complex, bytes), (path, node.lineno))
                self.assertNotIn("%", str(node.value), (path, node.lineno))

    def test_l2_l16_imports(self):
        for path, node in nodes(ast.ImportFrom):
            self.assertEqual(node.level, 0, path)
            self.assertRegex(node.module, r"^keptseats\.[a-z_]+$", path)
            source = ast.parse((ROOT / (node.module.replace(".", "/") + ".py")).read_text())
            defined = [stated.name for stated in source.body if isinstance(stated, (ast.FunctionDef, ast.ClassDef))]
            for name in node.names:
                self.assertIn(name.name, defined, path)
                self.assertIsNone(name.asname, path)

    def test_l3_the_top_of_a_file(self):
        allowed = (ast.ImportFrom, ast.FunctionDef, ast.ClassDef, ast.Assign)
        for path, tree in trees():
            self.assertIsNotNone(ast.get_docstring(tree), path)
            bound = []
            for node in tree.body[1:]:
                self.assertIsInstance(node, allowed, (path, node.lineno))
                if isinstance(node, ast.Assign):
                    bound.append(node.targets[0].id)
                    for inner in ast.walk(node.value):
                        self.assertIsInstance(inner, (ast.Constant, ast.Tuple, ast.Name, ast.Load), (path, node.lineno))
                elif not isinstance(node, ast.ImportFrom):
                    bound.append(node.name)
            self.assertEqual(len(bound), len(set(bound)), path)

    def test_l4_l5_functions_and_classes(self):
        for path, node in nodes((ast.FunctionDef, ast.ClassDef)):
            self.assertEqual(node.decorator_list, [], (path, node.name))
        for path, node in nodes(ast.arguments):
            self.assertEqual((node.vararg, node.kwarg, node.kwonlyargs, node.posonlyargs), (None, None, [], []), path)
        for path, node in nodes(ast.ClassDef):
            for inner in node.body:
                self.assertIsInstance(inner, ast.FunctionDef, (path, node.name))

    def test_l6_calls_alone_by_themselves(self):
        for path, tree in trees():
            for node in ast.walk(tree):
                if isinstance(node, ast.Expr) and node != tree.body[0]:
                    self.assertIsInstance(node.value, ast.Call, (path, node.lineno))

    def test_l6_one_target_and_no_else_behind_a_loop(self):
        for path, node in nodes(ast.Assign):
            self.assertEqual(len(node.targets), 1, (path, node.lineno))
            self.assertNotIsInstance(node.targets[0], (ast.Tuple, ast.List), (path, node.lineno))
        for path, node in nodes((ast.For, ast.While)):
            self.assertEqual(node.orelse, [], (path, node.lineno))
        for path, node in nodes(ast.comprehension):
            self.assertLessEqual(len(node.ifs), 1, path)


class Names(unittest.TestCase):
    def test_l8_l12_l17_names(self):
        for path, tree in trees():
            bound = self.bound(tree)
            self.assertEqual(bound & (BUILTINS | UNUSED), set(), path)
            for name in bound - OWN_DUNDERS:
                self.assertRegex(name, r"^[A-Za-z][A-Za-z0-9_]*$", path)
            used = {node.id for node in ast.walk(tree) if isinstance(node, ast.Name)}
            self.assertEqual(used - bound - BUILTINS, set(), path)

    def bound(self, tree):
        names = set()
        for node in ast.walk(tree):
            if isinstance(node, (ast.FunctionDef, ast.ClassDef)):
                names.add(node.name)
            elif isinstance(node, ast.arg):
                names.add(node.arg)
            elif isinstance(node, ast.alias):
                names.add(node.name)
            elif isinstance(node, ast.Name) and isinstance(node.ctx, ast.Store):
                names.add(node.id)
        return names

    def test_l15_no_local_like_an_import_or_class(self):
        for path, tree in trees():
            top = {alias.name for node in tree.body if isinstance(node, ast.ImportFrom) for alias in node.names}
            top |= {node.name for node in tree.body if isinstance(node, (ast.FunctionDef, ast.ClassDef))}
            for node in ast.walk(tree):
                if isinstance(node, ast.arg):
                    self.assertNotIn(node.arg, top, path)
                elif isinstance(node, ast.Name) and isinstance(node.ctx, ast.Store):
                    self.assertNotIn(node.id, top, (path, node.lineno))

    def test_l25_l26_attributes(self):
        theirs = set()
        for value in ("", 0, [], {}, (), b"", frozenset()):
            theirs |= set(dir(value))
        for path, node in nodes(ast.Attribute):
            if node.attr in theirs:
                self.assertIn(node.attr, METHODS, (path, node.lineno))


if __name__ == "__main__":
    unittest.main()
