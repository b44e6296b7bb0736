"""The rules of LANGUAGE.md that can be seen from a file's form alone."""

import ast
import builtins
import re
import unittest
from pathlib import Path

PACKAGE = Path(__file__).resolve().parent.parent / "quotatree"

NODES = (
    "Module Import ImportFrom alias FunctionDef ClassDef arguments arg Return Assign AugAssign For While If Raise Try "
    "ExceptHandler Expr Pass Break Continue Lambda BoolOp And Or BinOp Add Sub Mult FloorDiv Mod Pow BitAnd BitOr "
    "BitXor LShift RShift UnaryOp Not USub UAdd Invert Compare Eq NotEq Lt LtE Gt GtE Is IsNot In NotIn IfExp Call "
    "keyword Attribute Subscript Slice Constant List Tuple Dict Set ListComp comprehension JoinedStr FormattedValue "
    "Name Load Store"
).split()
BUILT_IN = (
    "len range enumerate zip min max sum abs sorted reversed int str bool list tuple dict set frozenset isinstance "
    "ord repr any all divmod Exception ValueError TypeError KeyError IndexError LookupError ZeroDivisionError "
    "ArithmeticError OverflowError RuntimeError NotImplementedError AttributeError StopIteration"
).split()
METHODS = ("__init__", "__eq__", "__repr__", "__str__", "__len__")
PYTHONS_METHODS = (
    "append clear copy count endswith extend find get index insert isalnum isalpha isdigit islower isspace isupper "
    "items join keys ljust lower lstrip partition pop remove replace reverse rfind rjust rpartition rsplit rstrip "
    "setdefault split splitlines startswith strip update upper values zfill bit_length"
).split()
WORDS = re.compile(
    r"\b(type|typing|typing_extensions|enum|Enum|IntEnum|StrEnum|Flag|IntFlag|Generic|Protocol|ABC|ABCMeta"
    r"|namedtuple|NamedTuple|TypedDict|TYPE_CHECKING|abstractmethod)\b|dataclass|overload|contextmanager"
)


def faults_of_text(source):
    found = []
    lines = source.split("\n")
    if len(lines) > 401:
        found.append("L10 file too long")
    for number, line in enumerate(lines, start=1):
        if len(line) > 120:
            found.append(f"L10 line {number} too long")
        if not re.fullmatch("[ -~]*", line):
            found.append(f"L14 sign in line {number}")
        if WORDS.search(line):
            found.append(f"L17 word in line {number}")
    return found


def faults_of_name(name, line):
    if name.startswith("_") and name not in METHODS:
        return [f"L12 name in line {line}"]
    return []


def faults_of_use(node):
    if isinstance(node.ctx, ast.Load):
        allowed = node.id in BUILT_IN or not hasattr(builtins, node.id)
        return [] if allowed else [f"L8 {node.id} in line {node.lineno}"]
    taken = [f"L15 {node.id} in line {node.lineno}"] if hasattr(builtins, node.id) else []
    return taken + faults_of_name(node.id, node.lineno)


def faults_of_function(node):
    found = faults_of_name(node.name, node.lineno)
    if node.end_lineno - node.lineno + 1 > 40:
        found.append(f"L10 function {node.name} too long")
    arguments = node.args
    if arguments.vararg or arguments.kwarg or arguments.kwonlyargs or arguments.posonlyargs or node.decorator_list:
        found.append(f"L4 function {node.name}")
    for argument in arguments.args:
        found += faults_of_name(argument.arg, node.lineno)
        if hasattr(builtins, argument.arg):
            found.append(f"L15 parameter {argument.arg}")
    return found


def faults_of_class(node):
    plain = all(isinstance(part, (ast.FunctionDef, ast.Pass)) for part in node.body)
    if not plain or len(node.bases) > 1 or node.keywords or node.decorator_list:
        return [f"L5 class {node.name}"]
    return []


def faults_of_constant(node):
    if isinstance(node.value, (bool, int, str)) or node.value is None:
        return []
    return [f"L7 value in line {node.lineno}"]


def faults_of_node(node):
    kind = node.__class__.__name__
    if kind not in NODES:
        return [f"L6, L7 {kind} in line {getattr(node, 'lineno', '?')}"]
    if isinstance(node, ast.Import):
        return [f"L16 import in line {node.lineno}"]
    if isinstance(node, ast.ImportFrom) and (node.level or not node.module.startswith("quotatree.")):
        return [f"L2 import in line {node.lineno}"]
    if isinstance(node, (ast.For, ast.While)) and node.orelse:
        return [f"L6 else behind a loop in line {node.lineno}"]
    if isinstance(node, ast.Assign) and len(node.targets) != 1:
        return [f"L6 targets in line {node.lineno}"]
    if isinstance(node, ast.Attribute):
        return faults_of_name(node.attr, node.lineno)
    by_kind = {
        ast.Name: faults_of_use, ast.FunctionDef: faults_of_function, ast.ClassDef: faults_of_class,
        ast.Constant: faults_of_constant,
    }
    return by_kind[node.__class__](node) if node.__class__ in by_kind else []


def faults(source):
    found = faults_of_text(source)
    for node in ast.walk(ast.parse(source)):
        found += faults_of_node(node)
    return found


def methods_of(node):
    return [part.name for part in node.body if isinstance(part, ast.FunctionDef)]


def classes_of(trees):
    return [node for tree in trees for node in ast.walk(tree) if isinstance(node, ast.ClassDef)]


def own_names(trees):
    """The methods, and the values given to objects, of all classes of the package."""
    methods = {name for node in classes_of(trees) for name in methods_of(node)}
    values = {
        node.attr for tree in trees for node in ast.walk(tree)
        if isinstance(node, ast.Attribute) and isinstance(node.ctx, ast.Store)
    }
    return methods, values


def faults_of_locals(tree):
    """L15: no parameter and no local is called like a class or an import of its file."""
    taken = {node.name for node in tree.body if isinstance(node, ast.ClassDef)}
    for node in tree.body:
        if isinstance(node, ast.ImportFrom):
            taken |= {alias.asname or alias.name for alias in node.names}
    bound = {node.id for node in ast.walk(tree) if isinstance(node, ast.Name) and isinstance(node.ctx, ast.Store)}
    bound |= {node.arg for node in ast.walk(tree) if isinstance(node, ast.arg)}
    return [f"L15 {name}" for name in sorted(taken & bound)]


def faults_of_is(tree):
    found = []
    for node in ast.walk(tree):
        if isinstance(node, ast.Compare) and any(isinstance(sign, (ast.Is, ast.IsNot)) for sign in node.ops):
            last = node.comparators[-1]
            if not isinstance(last, ast.Constant) or not any(last.value is one for one in (None, True, False)):
                found.append(f"L20 is in line {node.lineno}")
    return found


def faults_of_calls(tree, methods):
    found = []
    for node in ast.walk(tree):
        if isinstance(node, ast.Call) and isinstance(node.func, ast.Attribute):
            name = node.func.attr
            if name not in PYTHONS_METHODS and name not in methods:
                found.append(f"L25 {name} in line {node.lineno}")
    return found


def imports_of(tree):
    return {node.module for node in ast.walk(tree) if isinstance(node, ast.ImportFrom)}


def faults_of_imports(trees):
    """L16: each name comes from the file that defines it, and no two files draw from one another."""
    found = []
    for name, tree in trees.items():
        for node in tree.body:
            if isinstance(node, ast.ImportFrom):
                source = trees.get(node.module)
                defined = {getattr(part, "name", None) for part in source.body} if source else set()
                found += [f"L16 {name}: {alias.name}" for alias in node.names if alias.name not in defined]
    left = {name: imports_of(tree) for name, tree in trees.items()}
    while any(not drawn & set(left) for drawn in left.values()):
        left = {name: drawn for name, drawn in left.items() if drawn & set(left)}
    return found + [f"L16 {name} draws from itself" for name in sorted(left)]


def faults_together(trees):
    methods, values = own_names(trees.values())
    pythons = {name for kind in (str, int, list, dict, set, bytes, tuple) for name in dir(kind)}
    found = [f"L18 {name} is a method and a value" for name in sorted(methods & values)]
    found += [f"L26 {name}" for name in sorted((methods | values) & pythons - set(METHODS))]
    for tree in trees.values():
        found += faults_of_locals(tree) + faults_of_is(tree) + faults_of_calls(tree, methods | set(METHODS))
    for node in classes_of(trees.values()):
        if len(set(methods_of(node))) != len(methods_of(node)):
            found.append(f"L18 a method twice in {node.name}")
    return found + faults_of_imports(trees)


class Language(unittest.TestCase):
    def test_nothing_but_plain_python_files_in_the_package(self):
        names = sorted(path.name for path in PACKAGE.iterdir() if path.name != "__pycache__")
        self.assertIn("__init__.py", names)
        for name in names:
            with self.subTest(name):
                self.assertRegex(name, r"\A[a-z0-9_]+\.py\Z")

    def test_the_package_keeps_to_the_rules(self):
        for path in sorted(PACKAGE.glob("*.py")):
            with self.subTest(path.name):
                self.assertEqual(faults(path.read_text(encoding="utf-8")), [])

    def test_code_outside_the_rules_is_found(self):
        for source in (
            "import math", "from math import gcd", "from .errors import NoName", "x = 1 / 2", "x = 1.5", "x = y = 1",
            "x = b''", "def f(*many):\n    pass", "def f(_one):\n    pass", "def len():\n    return hash(1)",
            "x = {a for a in b}", "x = getattr(y, 'z')", "# the type of it", "# \u00e4", "x = '\t'", "x = 1" + " " * 120,
            "class A:\n    x = 1", "class A(B, C):\n    pass", "while a:\n    pass\nelse:\n    pass", "assert x",
            "def f():\n" + "    pass\n" * 40, "x = 1\n" * 401,
        ):
            with self.subTest(source[:40]):
                self.assertNotEqual(faults(source), [])

    def test_the_files_together_keep_to_the_rules(self):
        paths = sorted(PACKAGE.glob("*.py"))
        trees = {f"quotatree.{path.stem}": ast.parse(path.read_text(encoding="utf-8")) for path in paths}
        self.assertEqual(faults_together(trees), [])

    def test_files_that_break_the_rules_together_are_found(self):
        for one, other in (
            ("class A:\n    def use(self):\n        pass", "def f(x):\n    x.use = 1"),
            ("class A:\n    def pop(self):\n        pass", ""), ("def f(x):\n    x.keys = 1", ""),
            ("from quotatree.b import f\ndef g(f):\n    pass", "def f():\n    pass"),
            ("class A:\n    pass\ndef f():\n    A = 1", ""), ("def f(x, y):\n    return x is y", ""),
            ("def f(x):\n    x.sort()", ""), ("from quotatree.b import f", "def g():\n    pass"),
            ("from quotatree.b import f\ndef g():\n    pass", "from quotatree.a import g\ndef f():\n    pass"),
            ("class A:\n    def f(self):\n        pass\n    def f(self):\n        pass", ""),
        ):
            with self.subTest(one=one, other=other):
                trees = {"quotatree.a": ast.parse(one), "quotatree.b": ast.parse(other)}
                self.assertNotEqual(faults_together(trees), [])


if __name__ == "__main__":
    unittest.main()
