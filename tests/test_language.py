"""Holds the package to those rules of LANGUAGE.md that a walk over its source can see."""

import ast
import builtins
import pathlib
import re
import unittest

PACKAGE = pathlib.Path(__file__).resolve().parent.parent / "faultwhy"

# L6, L7: every node that may stand in a file.
NODES = """
Module Import ImportFrom alias FunctionDef arguments arg Lambda ClassDef Return Assign AugAssign AnnAssign For While
If Raise Try ExceptHandler Expr Pass Break Continue BoolOp BinOp UnaryOp IfExp Dict Set ListComp comprehension Compare
Call keyword FormattedValue JoinedStr Constant Attribute Subscript Slice Name List Tuple Load Store And Or Add Sub Mult
Mod Pow LShift RShift BitOr BitXor BitAnd FloorDiv Invert Not UAdd USub Eq NotEq Lt LtE Gt GtE Is IsNot In NotIn
""".split()

# L8.
OWN_NAMES = """
len range enumerate zip min max sum abs sorted reversed int str bool list tuple dict set frozenset isinstance ord repr
any all divmod Exception ValueError TypeError KeyError IndexError LookupError ZeroDivisionError ArithmeticError
OverflowError RuntimeError NotImplementedError AttributeError StopIteration
""".split()

# L25, with the further names that L26 gives to own methods.
METHODS = """
append clear copy count endswith extend find get index insert isalnum isalpha isdigit islower isspace isupper items join
keys ljust lower lstrip partition pop remove replace reverse rfind rjust rpartition rsplit rstrip setdefault split
splitlines startswith strip update upper values zfill bit_length add discard title
""".split()

# L5, L8.
UNDERSCORED = "__init__ __eq__ __repr__ __str__ __len__ __all__ __version__ __name__".split()

# L17.
WORDS = re.compile(
    r"\b(type|typing|typing_extensions|enum|Enum|IntEnum|StrEnum|Flag|IntFlag|Generic|Protocol|ABC|ABCMeta|namedtuple"
    r"|NamedTuple|TypedDict|TYPE_CHECKING|abstractmethod)\b|dataclass|overload|contextmanager"
)
NAMES = "register mro elements open input version_info with_traceback add_note attrgetter breakpoint".split()

FILE_NAME = re.compile(r"[a-z][a-z0-9_]*\.py|__init__\.py|__main__\.py")
BAD_FILE_NAMES = "test tests testing site conftest sitecustomize usercustomize".split() + dir(builtins)


def text_faults(text):
    rows = text.split("\n")
    found = []
    if len(rows) > 401:
        found.append("L10 rows")
    if any(len(row) > 120 for row in rows):
        found.append("L10 signs")
    if any(not (" " <= sign <= "~" or sign == "\n") for sign in text):
        found.append("L14 signs")
    if WORDS.search(text):
        found.append("L17 words")
    return found


def name_faults(name):
    if name.startswith("_") and name not in UNDERSCORED:
        return ["L12 " + name]
    if name in NAMES:
        return ["L17 " + name]
    return []


def import_faults(node):
    if isinstance(node, ast.Import):
        return ["L16 import"]
    if node.level or not node.module.startswith("faultwhy.") or any(one.name == "*" for one in node.names):
        return ["L2 import"]
    return []


def function_faults(node):
    found = []
    if node.end_lineno - node.lineno >= 40:
        found.append("L10 " + node.name)
    if node.decorator_list or node.args.vararg or node.args.kwarg or node.args.kwonlyargs or node.args.posonlyargs:
        found.append("L4 " + node.name)
    for arg in node.args.args:
        if hasattr(builtins, arg.arg):
            found.append("L15 " + arg.arg)
    return found + name_faults(node.name)


def class_faults(node):
    found = []
    if node.decorator_list or node.keywords or len(node.bases) > 1:
        found.append("L5 " + node.name)
    if any(not isinstance(row, (ast.FunctionDef, ast.Pass)) for row in node.body):
        found.append("L5 body of " + node.name)
    return found + name_faults(node.name)


def plain_name_faults(node):
    if hasattr(builtins, node.id):
        if isinstance(node.ctx, ast.Store):
            return ["L15 " + node.id]
        if node.id not in OWN_NAMES:
            return ["L8 " + node.id]
    return name_faults(node.id)


def attribute_faults(node):
    pythons_own = any(hasattr(kind, node.attr) for kind in (str, int, list, tuple, dict, set, bytes))
    if pythons_own and node.attr not in METHODS + UNDERSCORED:
        return ["L25 " + node.attr]
    return name_faults(node.attr)


def node_faults(node):
    kind = node.__class__.__name__
    if kind not in NODES:
        return ["L6 " + kind]
    if isinstance(node, (ast.Import, ast.ImportFrom)):
        return import_faults(node)
    if isinstance(node, ast.FunctionDef):
        return function_faults(node)
    if isinstance(node, ast.ClassDef):
        return class_faults(node)
    if isinstance(node, ast.Name):
        return plain_name_faults(node)
    if isinstance(node, ast.Attribute):
        return attribute_faults(node)
    if isinstance(node, ast.Constant) and not isinstance(node.value, (int, str, type(None))):
        return ["L7 value"]
    if isinstance(node, ast.Constant) and isinstance(node.value, str) and "%" in node.value:
        return ["L27 text"]
    if isinstance(node, (ast.For, ast.While)) and node.orelse or isinstance(node, ast.Try) and node.finalbody:
        return ["L6 else, finally"]
    if isinstance(node, ast.Assign) and len(node.targets) > 1:
        return ["L6 targets"]
    if isinstance(node, ast.ListComp) and (len(node.generators) > 1 or len(node.generators[0].ifs) > 1):
        return ["L7 comprehension"]
    return []


def top_faults(tree):
    allowed = (ast.ImportFrom, ast.FunctionDef, ast.ClassDef, ast.Assign)
    rows = tree.body[1:] if ast.get_docstring(tree) is not None else tree.body
    return ["L3 " + row.__class__.__name__ for row in rows if not isinstance(row, allowed)]


def faults_of(text):
    tree = ast.parse(text)
    found = text_faults(text) + top_faults(tree)
    for node in ast.walk(tree):
        found += node_faults(node)
    return found


class Package(unittest.TestCase):
    def files(self):
        return [path for path in sorted(PACKAGE.iterdir()) if path.name != "__pycache__"]

    def test_only_plain_files(self):
        for path in self.files():
            with self.subTest(path.name):
                self.assertTrue(path.is_file())
                self.assertTrue(FILE_NAME.fullmatch(path.name))
                self.assertNotIn(path.stem, BAD_FILE_NAMES)
                self.assertFalse(path.stem.startswith("test_"))

    def test_each_file_keeps_to_the_rules(self):
        self.assertTrue(self.files())
        for path in self.files():
            with self.subTest(path.name):
                self.assertEqual(faults_of(path.read_text(encoding="utf-8")), [])


class Check(unittest.TestCase):
    def test_good_rows_pass(self):
        good = "from faultwhy.errors import Ring\nONE = 1\n\n\ndef f(x):\n    return [y for y in x if y.strip()]\n"
        self.assertEqual(faults_of(good), [])

    def test_bad_rows_are_found(self):
        for bad in (
            "import os", "from .a import b", "from a import b", "from faultwhy.a import *", "print(1)", "x = 1 / 2",
            "x = 1.5", "x = {1: 2 for y in z}", "def f(*a):\n    pass", "def f(a):\n    yield a", "x = y = 1",
            "def f(list):\n    return 1", "max = 1", "def f(a):\n    a.sort()", "x = '\u00e9'", "x = 1\t", "_x = 1",
            "class A:\n    x = 1", "class A(B, C):\n    pass", "def f(a):\n    assert a", "x = 'the type'", "x = '%'",
            "def f(a):\n    for b in a:\n        pass\n    else:\n        pass", "def f(a):\n" + "    a = 1\n" * 40,
            "def f(a):\n    return [c for b in a for c in b]", "x = 1\n" * 401, "x = '" + "a" * 120 + "'",
            "def f(a):\n    return eval(a)", "def f(a):\n    return chr(a)", "@a\ndef f(b):\n    return b",
        ):
            with self.subTest(bad=bad):
                self.assertNotEqual(faults_of(bad), [])


if __name__ == "__main__":
    unittest.main()
