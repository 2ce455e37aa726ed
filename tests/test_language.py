"""Holds the package to those rules of LANGUAGE.md that a walk over its source can see."""

import ast
import builtins
import pathlib
import re
import unittest

PACKAGE = pathlib.Path(__file__).resolve().parent.parent / "faultwhy"

# L6, L7: every node that may stand in a file.
NODES = """
Module Import ImportFrom alias FunctionDef arguments arg Lambda ClassDef Return Assign AugAssign AnnAssign For While
If Raise Try ExceptHandler Expr Pass Break Continue BoolOp BinOp UnaryOp IfExp Dict Set ListComp comprehension Compare
Call keyword FormattedValue JoinedStr Constant Attribute Subscript Slice Name List Tuple Load Store And Or Add Sub Mult
Mod Pow LShift RShift BitOr BitXor BitAnd FloorDiv Invert Not UAdd USub Eq NotEq Lt LtE Gt GtE Is IsNot In NotIn
""".split()

# L8.
OWN_NAMES = """
len range enumerate zip min max sum abs sorted reversed int str bool list tuple dict set frozenset isinstance ord repr
any all divmod Exception ValueError TypeError KeyError IndexError LookupError ZeroDivisionError ArithmeticError
OverflowError RuntimeError NotImplementedError AttributeError StopIteration
""".split()

# L25, with the further names that L26 gives to own methods.
METHODS = """
append clear copy count endswith extend find get index insert isalnum isalpha isdigit islower isspace isupper items join
keys ljust lower lstrip partition pop remove replace reverse rfind rjust rpartition rsplit rstrip setdefault split
splitlines startswith strip update upper values zfill bit_length add discard title
""".split()

# L5, L8.
UNDERSCORED = "__init__ __eq__ __repr__ __str__ __len__ __all__ __version__ __name__".split()

# L17.
WORDS = re.compile(
    r"\b(type|typing|typing_extensions|enum|Enum|IntEnum|StrEnum|Flag|IntFlag|Generic|Protocol|ABC|ABCMeta|namedtuple"
    r"|NamedTuple|TypedDict|TYPE_CHECKING|abstractmethod)\b|dataclass|overload|contextmanager"
)
NAMES = "register mro elements open input version_info with_traceback add_note attrgetter breakpoint".split()

FILE_NAME = re.compile(r"[a-z][a-z0-9_]*\.py|__init__\.py|__main__\.py")
BAD_FILE_NAMES = "test tests testing site conftest sitecustomize usercustomize".split() + dir(builtins)


def text_faults(text):
    rows = text.split("\n")
    found = []
    if len(rows) > 401:
        found.append("L10 rows")
    if any(len(row) > 120 for row in rows):
        found.append("L10 signs")
    if any(not (" " <= sign <= "~" or sign == "\n") for sign in text):
        found.append("L14 signs")
    if WORDS.search(text):
        found.append("L17 words")
    return found


def name_faults(name):
    if name.startswith("_") and name not in UNDERSCORED:
        return ["L12 " + name]
    if name in NAMES:
        return ["L17 " + name]
    return []


def import_faults(node):
    if isinstance(node, ast.Import):
        return ["L16 import"]
    if node.level or not node.module.startswith("faultwhy.") or any(one.name == "*" for one in node.names):
        return ["L2 import"]
    return []


def function_faults(node):
    found = []
    if node.end_lineno - node.lineno >= 40:
        found.append("L10 " + node.name)
    if node.decorator_list or node.args.vararg or node.args.kwarg or node.args.kwonlyargs or node.args.posonlyargs:
        found.append("L4 " + node.name)
    for arg in node.args.args:
        if hasattr(builtins, arg.arg):
            found.append("L15 " + arg.arg)
    return found + name_faults(node.name)


def class_faults(node):
    found = []
    if node.decorator_list or node.keywords or len(node.bases) > 1:
        found.append("L5 " + node.name)
    if any(not isinstance(row, (ast.FunctionDef, ast.Pass)) for row in node.body):
        found.append("L5 body of " + node.name)
    return found + name_faults(node.name)


def plain_name_faults(node):
    if hasattr(builtins, node.id):
        if isinstance(node.ctx, ast.Store):
            return ["L15 " + node.id]
        if node.id not in OWN_NAMES:
            return ["L8 " + node.id]
    return name_faults(node.id)


def attribute_faults(node):
    pythons_own = any(hasattr(kind, node.attr) for kind in (str, int, list, tuple, dict, set, bytes))
    if pythons_own and node.attr not in METHODS + UNDERSCORED:
        return ["L25 " + node.attr]
    return name_faults(node.attr)


def node_faults(node):
    kind = node.__class__.__name__
    if kind not in NODES:
        return ["L6 " + kind]
    if isinstance(node, (ast.Import, ast.ImportFrom)):
        return import_faults(node)
    if isinstance(node, ast.FunctionDef):
        return function_faults(node)
    if isinstance(node, ast.ClassDef):
        return class_faults(node)
    if isinstance(node, ast.Name):
        return plain_name_faults(node)
    if isinstance(node, ast.Attribute):
        return attribute_faults(node)
    if isinstance(node, ast.Constant) and not isinstance(node.value, (int, str, type(None))):
        return ["L7 value"]
    if isinstance(node, ast.Constant) and isinstance(node.value, str) and "%" in node.value:
        return ["L27 text"]
    if isinstance(node, (ast.For, ast.While)) and node.orelse or isinstance(node, ast.Try) and node.finalbody:
        return ["L6 else, finally"]
    if isinstance(node, ast.Assign) and len(node.targets) > 1:
        return ["L6 targets"]
    if isinstance(node, ast.ListComp) and (len(node.generators) > 1 or len(node.generators[0].ifs) > 1):
        return ["L7 comprehension"]
    return []


def top_faults(tree):
    allowed = (ast.ImportFrom, ast.FunctionDef, ast.ClassDef, ast.Assign)
    rows = tree.body[1:] if ast.get_docstring(tree) is not None else tree.body
    return ["L3 " + row.__class__.__name__ for row in rows if not isinstance(row, allowed)]


def linked(tree):
    # Each node learns what it stands in.
    for node in ast.walk(tree):
        for child in ast.iter_child_nodes(node):
            child.stands_in = node
    return tree


def called(node):
    # The plain name that is called, if one is.
    return node.func.id if isinstance(node, ast.Call) and isinstance(node.func, ast.Name) else None


def is_walked(node):
    # L23: whether zip, range, items and their like are walked where they stand.
    upper = node.stands_in
    if isinstance(upper, (ast.For, ast.comprehension)):
        return upper.iter is node
    if not isinstance(upper, ast.Call) or not upper.args or upper.args[0] is not node:
        return called(upper) == "zip"
    if isinstance(upper.func, ast.Attribute):
        return upper.func.attr == "join" and isinstance(upper.func.value, ast.Constant)
    if called(upper) in ("min", "max"):
        return len(upper.args) == 1 and not upper.keywords
    return called(upper) in "list tuple dict sorted sum any all enumerate zip".split()


def is_fleeting(node):
    # L23: what must be walked on the spot.
    if called(node) in ("zip", "enumerate", "reversed", "range"):
        return True
    return isinstance(node, ast.Call) and isinstance(node.func, ast.Attribute) and node.func.attr in (
        "items", "keys", "values")


def is_set_on_the_spot(node):
    # L24: where set(..) may stand.
    upper = node.stands_in
    while isinstance(upper, ast.BinOp):
        node, upper = upper, upper.stands_in
    if isinstance(upper, ast.Compare):
        return all(isinstance(sign, (ast.In, ast.NotIn, ast.Eq, ast.NotEq)) for sign in upper.ops)
    return called(upper) in ("sorted", "len") and not upper.keywords


def call_faults(node):
    found = []
    if is_fleeting(node) and not is_walked(node):
        found.append("L23 " + ast.unparse(node))
    if called(node) in ("set", "frozenset") and not is_set_on_the_spot(node):
        found.append("L24 " + ast.unparse(node))
    for keyword in node.keywords:
        if keyword.arg not in KEYWORDS.get(called(node), ()):
            found.append("L22 " + str(keyword.arg))
    return found


KEYWORDS = {"sorted": ("key", "reverse"), "min": ("key", "default"), "max": ("key", "default"), "sum": ("start",),
            "enumerate": ("start",), "zip": ("strict",)}


def sign_faults(node):
    # Rules that look at one sign or statement.
    if isinstance(node, ast.Compare):
        sides = [node.left] + node.comparators
        for left, sign, right in zip(sides, node.ops, sides[1:]):
            if isinstance(sign, (ast.Is, ast.IsNot)) and not any(
                    isinstance(side, ast.Constant) and isinstance(side.value, (bool, type(None))) for side in (left, right)):
                return ["L20 is"]
    if isinstance(node, ast.Set) and len(node.elts) > 2:
        return ["L13 set"]
    if isinstance(node, ast.BinOp) and isinstance(node.op, ast.Pow):
        if not isinstance(node.right, ast.Constant) or not 0 <= node.right.value <= 64:
            return ["L27 **"]
    if isinstance(node, ast.Assign) and not isinstance(node.targets[0], (ast.Name, ast.Attribute, ast.Subscript)):
        return ["L6 targets"]
    if isinstance(node, ast.ExceptHandler) and (node.type is None or ast.unparse(node.type) in BAD_HANDLERS):
        return ["L19 except"]
    if isinstance(node, ast.Raise) and not isinstance(node.exc, ast.Call):
        return ["L19 raise"]
    if isinstance(node, ast.ListComp) and is_within(node, ast.ListComp):
        return ["L7 comprehension within another"]
    return []


def is_within(node, kind):
    while hasattr(node, "stands_in"):
        node = node.stands_in
        if isinstance(node, kind):
            return True
    return False


# Those that are tied to narrow uses; the program does without them.
BAD_HANDLERS = "Exception ValueError LookupError IndexError TypeError".split()
CHANGING = "append clear extend insert pop remove reverse setdefault update".split()


def top_names(tree):
    names = []
    for row in tree.body:
        if isinstance(row, (ast.FunctionDef, ast.ClassDef)):
            names.append(row.name)
        elif isinstance(row, ast.ImportFrom):
            names += [alias.asname or alias.name for alias in row.names]
        elif isinstance(row, ast.Assign):
            names.append(row.targets[0].id)
    return names


def table_faults(tree):
    # L15: lists and dicts of a file's top hold no lists or dicts, and are only read.
    found = []
    tables = [row for row in tree.body if isinstance(row, ast.Assign) and isinstance(row.value, (ast.List, ast.Dict))]
    for row in tables:
        if any(isinstance(node, (ast.List, ast.Dict)) and node is not row.value for node in ast.walk(row)):
            found.append("L15 within " + row.targets[0].id)
    names = [row.targets[0].id for row in tables]
    for node in ast.walk(tree):
        if isinstance(node, ast.Name) and node.id in names and isinstance(node.ctx, ast.Load):
            if not is_read_only(node):
                found.append("L15 use of " + node.id)
    return found


def is_read_only(node):
    upper = node.stands_in
    if isinstance(upper, ast.Subscript):
        return isinstance(upper.ctx, ast.Load)
    if isinstance(upper, ast.Attribute):
        return upper.attr not in CHANGING
    if isinstance(upper, ast.Call):
        return called(upper) in "len list tuple dict sorted min max sum any all enumerate zip".split()
    return isinstance(upper, (ast.Compare, ast.For, ast.comprehension))


def local_faults(tree):
    # L15: each name once at the top, and no local called like a class or an import.
    names = top_names(tree)
    found = ["L15 twice " + name for name in names if names.count(name) > 1]
    held = [row.name for row in tree.body if isinstance(row, ast.ClassDef)]
    for row in tree.body:
        if isinstance(row, ast.ImportFrom):
            held += [alias.name for alias in row.names]
    for node in ast.walk(tree):
        if isinstance(node, ast.arg) and node.arg in held:
            found.append("L15 " + node.arg)
        if isinstance(node, ast.Name) and isinstance(node.ctx, ast.Store) and node.id in held:
            found.append("L15 " + node.id)
    return found


def class_use_faults(tree):
    # L18: a class is called, is a base, or stands by isinstance, except or raise.
    names = [row.name for row in tree.body if isinstance(row, ast.ClassDef)]
    for row in tree.body:
        if isinstance(row, ast.ImportFrom):
            names += [alias.name for alias in row.names if alias.name[0].isupper()]
    found = []
    for node in ast.walk(tree):
        if isinstance(node, ast.Name) and node.id in names:
            upper = node.stands_in
            good = isinstance(upper, (ast.ClassDef, ast.ExceptHandler)) or called(upper) == "isinstance"
            if not good and not (isinstance(upper, ast.Call) and upper.func is node):
                found.append("L18 " + node.id)
    return found


def methods_and_values(tree):
    methods, values = [], []
    for node in ast.walk(tree):
        if isinstance(node, ast.ClassDef):
            methods += [row.name for row in node.body if isinstance(row, ast.FunctionDef)]
        if isinstance(node, ast.Attribute) and isinstance(node.ctx, ast.Store):
            values.append(node.attr)
    return methods, values


def faults_of(text):
    tree = linked(ast.parse(text))
    found = text_faults(text) + top_faults(tree)
    for node in ast.walk(tree):
        found += node_faults(node) + sign_faults(node)
        if isinstance(node, ast.Call):
            found += call_faults(node)
    if not found:
        found = table_faults(tree) + local_faults(tree) + class_use_faults(tree)
    return found


class Package(unittest.TestCase):
    def files(self):
        return [path for path in sorted(PACKAGE.iterdir()) if path.name != "__pycache__"]

    def test_only_plain_files(self):
        for path in self.files():
            with self.subTest(path.name):
                self.assertTrue(path.is_file())
                self.assertTrue(FILE_NAME.fullmatch(path.name))
                self.assertNotIn(path.stem, BAD_FILE_NAMES)
                self.assertFalse(path.stem.startswith("test_"))

    def test_each_file_keeps_to_the_rules(self):
        self.assertTrue(self.files())
        for path in self.files():
            with self.subTest(path.name):
                self.assertEqual(faults_of(path.read_text(encoding="utf-8")), [])

    def trees(self):
        return {path.stem: linked(ast.parse(path.read_text(encoding="utf-8"))) for path in self.files()}

    def test_names_are_drawn_from_the_file_that_defines_them(self):
        trees = self.trees()
        for stem in trees:
            for row in trees[stem].body:
                if isinstance(row, ast.ImportFrom):
                    source = trees[row.module.split(".")[1]]
                    defined = [one.name for one in source.body if isinstance(one, (ast.FunctionDef, ast.ClassDef))]
                    with self.subTest(stem=stem, source=row.module):
                        self.assertLessEqual({alias.name for alias in row.names}, set(defined))

    def test_no_two_files_draw_from_one_another(self):
        trees = self.trees()
        draws = {
            stem: {row.module.split(".")[1] for row in trees[stem].body if isinstance(row, ast.ImportFrom)}
            for stem in trees
        }
        while draws:
            last = [stem for stem in draws if not draws[stem] & set(draws)]
            self.assertTrue(last, draws)
            for stem in last:
                draws.pop(stem)

    def test_no_name_is_a_method_here_and_a_value_there(self):
        methods, values = [], []
        for tree in self.trees().values():
            more = methods_and_values(tree)
            methods += more[0]
            values += more[1]
        self.assertEqual(set(methods) & set(values), set())
        pythons_own = {name for kind in (str, int, list, tuple, dict, set, bytes) for name in dir(kind)}
        self.assertEqual((set(methods) | set(values)) & pythons_own, {"__init__"})


class Check(unittest.TestCase):
    def test_good_rows_pass(self):
        good = "from faultwhy.errors import Ring\nONE = 1\n\n\ndef f(x):\n    return [y for y in x if y.strip()]\n"
        self.assertEqual(faults_of(good), [])

    def test_bad_rows_are_found(self):
        for bad in (
            "import os", "from .a import b", "from a import b", "from faultwhy.a import *", "print(1)", "x = 1 / 2",
            "x = 1.5", "x = {1: 2 for y in z}", "def f(*a):\n    pass", "def f(a):\n    yield a", "x = y = 1",
            "def f(list):\n    return 1", "max = 1", "def f(a):\n    a.sort()", "x = '\u00e9'", "x = 1\t", "_x = 1",
            "class A:\n    x = 1", "class A(B, C):\n    pass", "def f(a):\n    assert a", "x = 'the type'", "x = '%'",
            "def f(a):\n    for b in a:\n        pass\n    else:\n        pass", "def f(a):\n" + "    a = 1\n" * 40,
            "def f(a):\n    return [c for b in a for c in b]", "x = 1\n" * 401, "x = '" + "a" * 120 + "'",
            "def f(a):\n    return a is f", "def f(a):\n    return 2 ** a", "def f(a):\n    b = set(a)\n    return b",
            "def f(a):\n    b = zip(a, a)\n    return b", "def f(a):\n    return max(a.values(), default=0)",
            "def f(a):\n    try:\n        return a[0]\n    except Exception:\n        return 0", "X = [[1]]",
            "X = [1]\n\n\ndef f(a):\n    X.append(a)", "X = [1]\n\n\ndef f(a):\n    return X", "x = 1\nx = 2",
            "from faultwhy.errors import Ring\n\n\ndef f(a):\n    return [Ring]", "def f(a):\n    raise a",
            "from faultwhy.errors import forced\n\n\ndef f(forced):\n    return forced", "def f(a):\n    b, c = a",
            "def f(a):\n    return a in {1, 2, 3, 4} - {1, 2, 3}", "def f(a):\n    return int(a, base=3)",
            "def f(a):\n    return [[c for c in b] for b in a]", "def f(a):\n    return [b for b in a if all([c for c in b])]",
            "def f(a):\n    return eval(a)", "def f(a):\n    return chr(a)", "@a\ndef f(b):\n    return b",
        ):
            with self.subTest(bad=bad):
                self.assertNotEqual(faults_of(bad), [])


if __name__ == "__main__":
    unittest.main()
