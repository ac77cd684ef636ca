"""The package's own files, held against the rules of the small part of Python that they keep to."""

import ast
import builtins
import re
import unittest
from pathlib import Path

PACKAGE = Path(__file__).resolve().parent.parent / "rowjudge"

ERRORS = set(
    "Exception ValueError TypeError KeyError IndexError LookupError ZeroDivisionError ArithmeticError "
    "OverflowError RuntimeError NotImplementedError AttributeError StopIteration".split()
)
BUILTINS = ERRORS | set(
    "len range enumerate zip min max sum abs sorted reversed int str bool list tuple dict set isinstance "
    "ord repr any all divmod frozenset".split()
)
PYTHON_METHODS = set(
    "append clear copy count endswith extend find get index insert isalnum isalpha isdigit islower isspace "
    "isupper items join keys ljust lower lstrip partition pop remove replace reverse rfind rjust rpartition "
    "rsplit rstrip setdefault split splitlines startswith strip update upper values zfill bit_length".split()
)
VALUE_NAMES = set("count index title find get join lower upper split strip copy add".split())
DUNDERS = {"__init__", "__eq__", "__repr__", "__str__", "__len__"}
PYTHONS_OWN = {name for kind in (str, int, list, dict, set, bytes) for name in dir(kind)}
WORDS = (
    r"\b(type|typing|typing_extensions|enum|Enum|IntEnum|StrEnum|Flag|IntFlag|Generic|Protocol|ABC|ABCMeta|"
    r"namedtuple|NamedTuple|TypedDict|TYPE_CHECKING|abstractmethod)\b|dataclass|overload|contextmanager"
)
STATEMENTS = (
    ast.Assign, ast.AugAssign, ast.If, ast.While, ast.For, ast.Return, ast.Break, ast.Continue, ast.Pass,
    ast.Raise, ast.Try, ast.FunctionDef, ast.ClassDef, ast.ImportFrom, ast.Expr,
)
EXPRESSIONS = (
    ast.Constant, ast.List, ast.Tuple, ast.Dict, ast.Set, ast.BinOp, ast.UnaryOp, ast.BoolOp, ast.Compare,
    ast.IfExp, ast.Call, ast.Attribute, ast.Subscript, ast.Slice, ast.ListComp, ast.JoinedStr,
    ast.FormattedValue, ast.Name, ast.Lambda,
)


def text_faults(text):
    lines = text.split("\n")
    faults = ["L10 long file"] if len(lines) > 401 else []
    for number, line in enumerate(lines, start=1):
        if len(line) > 120:
            faults.append(f"L10 long line {number}")
        if not all(" " <= sign <= "~" for sign in line):
            faults.append(f"L14 sign in line {number}")
        if re.search(WORDS, line):
            faults.append(f"L17 word in line {number}")
    return faults


def is_docstring(node):
    return isinstance(node, ast.Expr) and isinstance(node.value, ast.Constant) and isinstance(node.value.value, str)


def top_faults(tree):
    faults = []
    for place, node in enumerate(tree.body):
        plain = isinstance(node, (ast.ImportFrom, ast.FunctionDef, ast.ClassDef, ast.Assign))
        if not plain and not (place == 0 and is_docstring(node)):
            faults.append(f"L3 top of the module, line {node.lineno}")
    bound = top_names(tree) + imported_names(tree)
    faults += [f"L15 {name} bound twice" for name in sorted(set(bound)) if bound.count(name) > 1]
    return faults


def top_names(tree):
    names = [node.name for node in tree.body if isinstance(node, (ast.FunctionDef, ast.ClassDef))]
    for node in tree.body:
        if isinstance(node, ast.Assign):
            names += [target.id for target in node.targets if isinstance(target, ast.Name)]
    return names


def imported_names(tree):
    return [alias.name for node in tree.body if isinstance(node, ast.ImportFrom) for alias in node.names]


def statement_fault(node):
    if not isinstance(node, STATEMENTS):
        return "L6 statement"
    if isinstance(node, (ast.For, ast.While)) and node.orelse:
        return "L6 else behind a loop"
    if isinstance(node, ast.Try) and node.finalbody:
        return "L6 finally"
    if isinstance(node, ast.Assign) and len(node.targets) != 1:
        return "L6 several targets"
    if isinstance(node, ast.Expr) and not isinstance(node.value, ast.Call) and node.lineno != 1:
        return "L6 an expression by itself"
    if isinstance(node, ast.ImportFrom):
        return import_fault(node)
    if isinstance(node, ast.FunctionDef):
        return function_fault(node)
    if isinstance(node, ast.ClassDef):
        return class_fault(node)
    return None


def import_fault(node):
    own = node.level == 0 and node.module.startswith("rowjudge.")
    plain = all(alias.name != "*" and alias.asname is None for alias in node.names)
    return None if own and plain else "L2 import"


def function_fault(node):
    args = node.args
    if args.vararg or args.kwarg or args.kwonlyargs or args.posonlyargs or node.decorator_list:
        return "L4 function"
    if node.end_lineno - node.lineno + 1 > 40:
        return "L10 long function"
    return None


def class_fault(node):
    if len(node.bases) > 1 or node.keywords or node.decorator_list:
        return "L5 class"
    if not all(isinstance(part, (ast.FunctionDef, ast.Pass)) for part in node.body):
        return "L5 value in the class body"
    methods = [part.name for part in node.body if isinstance(part, ast.FunctionDef)]
    if len(set(methods)) < len(methods):
        return "L18 a method twice"
    return None


def expression_fault(node):
    if not isinstance(node, EXPRESSIONS):
        return "L7 expression"
    if isinstance(node, ast.Constant):
        return constant_fault(node.value)
    if isinstance(node, ast.BinOp) and isinstance(node.op, (ast.Div, ast.MatMult)):
        return "L7 operator"
    if isinstance(node, ast.BinOp) and isinstance(node.op, ast.Pow) and not isinstance(node.right, ast.Constant):
        return "L27 exponent"
    if isinstance(node, ast.Compare) and any(isinstance(op, (ast.Is, ast.IsNot)) for op in node.ops):
        plain = all(isinstance(side, ast.Constant) for side in node.comparators)
        return None if plain else "L20 is"
    if isinstance(node, ast.ListComp) and (len(node.generators) > 1 or len(node.generators[0].ifs) > 1):
        return "L7 comprehension"
    if isinstance(node, ast.FormattedValue) and not (isinstance(node.value, ast.Name) and node.format_spec is None):
        return "L7 f-string"
    return None


def constant_fault(value):
    if not (value is None or isinstance(value, (bool, int, str))):
        return "L7 value"
    if isinstance(value, str) and "\x25" in value:
        return "L27 sign within a text"
    return None


def name_faults(tree):
    top = top_names(tree) + imported_names(tree)
    taken = set(imported_names(tree)) | {node.name for node in tree.body if isinstance(node, ast.ClassDef)}
    methods = [part for node in tree.body if isinstance(node, ast.ClassDef) for part in node.body]
    faults = []
    for node in ast.walk(tree):
        if isinstance(node, ast.arg):
            bound = node.arg
        elif isinstance(node, ast.Name) and isinstance(node.ctx, ast.Store):
            bound = node.id
        elif isinstance(node, (ast.FunctionDef, ast.ClassDef)):
            bound = node.name
        else:
            continue
        if bound.startswith("_") and bound not in DUNDERS:
            faults.append(f"L12 {bound}")
        if node in methods:
            continue
        if hasattr(builtins, bound) or (bound in taken and not isinstance(node, ast.ClassDef)):
            faults.append(f"L15 {bound} has another meaning")
    for node in ast.walk(tree):
        if isinstance(node, ast.Name) and hasattr(builtins, node.id):
            if node.id not in BUILTINS and node.id not in top:
                faults.append(f"L8 {node.id}")
    return faults


def attributes(trees):
    methods = set()
    values = set()
    for tree in trees:
        for node in ast.walk(tree):
            if isinstance(node, ast.ClassDef):
                methods |= {part.name for part in node.body if isinstance(part, ast.FunctionDef)}
            if isinstance(node, ast.Attribute) and isinstance(node.ctx, ast.Store):
                values.add(node.attr)
    return methods - DUNDERS, values


def attribute_faults(trees):
    methods, values = attributes(trees)
    faults = [f"L18 {name} is a method and a value" for name in sorted(methods & values)]
    faults += [f"L26 value {name}" for name in sorted(values & PYTHONS_OWN - VALUE_NAMES)]
    faults += [f"L26 method {name}" for name in sorted(methods & PYTHONS_OWN - PYTHON_METHODS - {"add", "discard"})]
    for tree in trees:
        for node in ast.walk(tree):
            if isinstance(node, ast.Attribute) and node.attr not in methods | values | PYTHON_METHODS | DUNDERS:
                faults.append(f"L25 {node.attr}")
    return faults


def faults_of(text):
    tree = ast.parse(text)
    faults = text_faults(text) + top_faults(tree) + name_faults(tree)
    for node in ast.walk(tree):
        fault = None
        if isinstance(node, ast.stmt):
            fault = statement_fault(node)
        elif isinstance(node, ast.expr):
            fault = expression_fault(node)
        if fault:
            faults.append(f"{fault}, line {node.lineno}")
    return faults + attribute_faults([tree])


def sources():
    return {path.stem: path.read_text(encoding="utf-8") for path in sorted(PACKAGE.glob("*.py"))}


def drawn_from(tree):
    return {node.module.split(".")[1] for node in tree.body if isinstance(node, ast.ImportFrom)}


class PackageKeepsToTheRules(unittest.TestCase):
    def test_files(self):
        for path in PACKAGE.iterdir():
            if path.name != "__pycache__":
                self.assertTrue(path.is_file(), path)
                self.assertRegex(path.name, r"\A[a-z0-9_]+\.py\Z")
        self.assertIn("__init__", sources())

    def test_each_file(self):
        for name, text in sources().items():
            with self.subTest(name=name):
                faults = [fault for fault in faults_of(text) if not fault.startswith("L25")]
                self.assertEqual(faults, [])

    def test_methods_and_values_of_all_files(self):
        self.assertEqual(attribute_faults([ast.parse(text) for text in sources().values()]), [])

    def test_each_name_is_drawn_from_the_file_that_defines_it(self):
        trees = {name: ast.parse(text) for name, text in sources().items()}
        for tree in trees.values():
            for node in tree.body:
                if isinstance(node, ast.ImportFrom):
                    made = top_names(trees[node.module.split(".")[1]])
                    self.assertLessEqual({alias.name for alias in node.names}, set(made))

    def test_no_two_files_draw_from_one_another(self):
        left = {name: drawn_from(ast.parse(text)) for name, text in sources().items()}
        while left:
            free = [name for name, drawn in left.items() if not drawn & set(left)]
            self.assertTrue(free, f"a ring among {sorted(left)}")
            left = {name: drawn for name, drawn in left.items() if name not in free}


class BreachesAreFound(unittest.TestCase):
    def assert_found(self, rule, text):
        self.assertTrue(any(fault.startswith(rule + " ") for fault in faults_of(text)), (rule, text, faults_of(text)))

    def test_each_rule(self):
        self.assert_found("L2", "import os\nfrom os import path\n")
        self.assert_found("L3", "x = 1\nprint(x)\n")
        self.assert_found("L4", "def f(*args):\n    return args\n")
        self.assert_found("L5", "class C:\n    x = 1\n")
        self.assert_found("L6", "def f(x):\n    assert x\n")
        self.assert_found("L6", "def f(x):\n    a = b = x\n")
        self.assert_found("L6", "def f(x):\n    'told'\n")
        self.assert_found("L7", "def f(x):\n    return any(y for y in x)\n")
        self.assert_found("L7", "def f(x):\n    return x / 2\n")
        self.assert_found("L7", "def f(x):\n    return f'{x + 1}'\n")
        self.assert_found("L8", "def f(x):\n    return map(f, x)\n")
        self.assert_found("L10", "def f(x):\n" + "    x = 1\n" * 40)
        self.assert_found("L10", "x = 1" + " " * 120 + "\n")
        self.assert_found("L12", "def f(_x):\n    return 1\n")
        self.assert_found("L14", "x = '\u00e9'\n")
        self.assert_found("L15", "def f(next):\n    return next\n")
        self.assert_found("L15", "x = 1\nx = 2\n")
        self.assert_found("L17", "# the type of it\n")
        self.assert_found("L18", "class C:\n    def f(self):\n        return 1\n    def f(self):\n        return 2\n")
        self.assert_found("L20", "def f(x, y):\n    return x is y\n")
        self.assert_found("L25", "def f(x):\n    x.sort()\n")
        self.assert_found("L26", "class C:\n    def __init__(self):\n        self.items = 1\n")
        self.assert_found("L27", "x = 'a \x25 b'\n")

    def test_plain_code_has_none(self):
        self.assertEqual(faults_of('"""Told."""\n\n\ndef f(x):\n    return [y for y in x if y > 1]\n'), [])


if __name__ == "__main__":
    unittest.main()
