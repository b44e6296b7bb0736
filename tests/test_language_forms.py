"""More rules of LANGUAGE.md: L15, L18, L19, L22 to L25 and L27, as far as a file's form shows them."""

import ast
import unittest
from pathlib import Path

PACKAGE = Path(__file__).resolve().parent.parent / "quotatree"

# Walked on the spot, and the calls in which they may stand first (L23).
WALKED = ("zip", "enumerate", "reversed", "range")
WALKED_METHODS = ("items", "keys", "values")
WALKERS = ("list", "tuple", "dict", "sorted", "sum", "any", "all", "enumerate", "zip", "min", "max")
READING = ("get", "items", "keys", "values", "index", "count")
CHANGES = ("append", "clear", "extend", "insert", "pop", "remove", "reverse", "setdefault", "update")
KEYWORDS = {
    "sorted": ("key", "reverse"), "min": ("key", "default"), "max": ("key", "default"), "sum": ("start",),
    "enumerate": ("start",), "zip": ("strict",),
}
PYTHONS_ERRORS = ("KeyError", "ZeroDivisionError", "StopIteration")
CLASSES_OF_PYTHON = ("int", "str", "bool", "list", "tuple", "dict")


def called(node):
    """The name of a function or method that a node calls, or None."""
    if isinstance(node, ast.Call):
        return getattr(node.func, "id", getattr(node.func, "attr", None))
    return None


def with_parents(tree):
    parents = {}
    for node in ast.walk(tree):
        for child in ast.iter_child_nodes(node):
            parents[child] = node
    return parents


def faults_of_walks(tree, parents):
    found = []
    for node in ast.walk(tree):
        name = called(node)
        method = isinstance(node, ast.Call) and isinstance(node.func, ast.Attribute)
        if not (name in WALKED_METHODS if method else name in WALKED):
            continue
        parent = parents[node]
        in_loop = isinstance(parent, (ast.For, ast.comprehension)) and parent.iter is node
        in_call = isinstance(parent, ast.Call) and parent.args[:1] == [node] and called(parent) in WALKERS + ("join",)
        if not in_loop and not in_call:
            found.append(f"L23 {name} in line {node.lineno}")
    return found


def faults_of_loops(tree):
    """L23: what a loop walks is not changed in it."""
    found = []
    for loop in ast.walk(tree):
        if not isinstance(loop, ast.For):
            continue
        walked = loop.iter
        while isinstance(walked, ast.Call) and called(walked) in WALKED + WALKED_METHODS:
            walked = walked.func.value if isinstance(walked.func, ast.Attribute) else walked.args[0]
        text = ast.unparse(walked)
        for node in [part for line in loop.body for part in ast.walk(line)]:
            changed = None
            if isinstance(node, ast.Call) and isinstance(node.func, ast.Attribute) and node.func.attr in CHANGES:
                changed = ast.unparse(node.func.value)
            if isinstance(node, ast.Subscript) and isinstance(node.ctx, ast.Store):
                changed = ast.unparse(node.value)
            if isinstance(node, (ast.Name, ast.Attribute)) and isinstance(node.ctx, ast.Store):
                changed = ast.unparse(node)
            if changed == text:
                found.append(f"L23 {text} is changed in line {node.lineno}")
    return found


def faults_of_sets(tree, parents):
    found = []
    for node in ast.walk(tree):
        if isinstance(node, ast.Set) or called(node) in ("set", "frozenset"):
            parent = parents[node]
            in_call = called(parent) in ("sorted", "len") and not parent.keywords
            if not in_call and not isinstance(parent, ast.Compare):
                found.append(f"L24 a set in line {node.lineno}")
    return found


def faults_of_keywords(tree):
    found = []
    for node in ast.walk(tree):
        if isinstance(node, ast.Call):
            allowed = KEYWORDS.get(called(node), ()) if isinstance(node.func, ast.Name) else ()
            found += [f"L22 {word.arg} in line {node.lineno}" for word in node.keywords if word.arg not in allowed]
    return found


def faults_of_methods(tree, parents, methods):
    """L25: a method is called where it stands."""
    found = []
    for node in ast.walk(tree):
        if isinstance(node, ast.Attribute) and isinstance(node.ctx, ast.Load) and node.attr in methods:
            parent = parents[node]
            if not (isinstance(parent, ast.Call) and parent.func is node):
                found.append(f"L25 {node.attr} in line {node.lineno}")
    return found


def faults_of_errors(tree, classes):
    found = []
    for node in ast.walk(tree):
        if isinstance(node, ast.Raise) and not isinstance(node.exc, ast.Call):
            found.append(f"L19 raise in line {node.lineno}")
        if isinstance(node, ast.ExceptHandler):
            name = getattr(node.type, "id", None)
            if name not in classes and name not in PYTHONS_ERRORS:
                found.append(f"L19 except in line {node.lineno}")
    return found


def faults_of_classes(tree, parents, classes):
    """L18 and L22: where a class, or one of Python's, may stand."""
    found = []
    for node in ast.walk(tree):
        if not isinstance(node, ast.Name) or not isinstance(node.ctx, ast.Load):
            continue
        parent = parents[node]
        above = parents[parent] if isinstance(parent, ast.Tuple) else parent
        as_kind = called(above) == "isinstance" and above.args[1] in (node, parent)
        as_base = isinstance(parent, (ast.ClassDef, ast.ExceptHandler))
        as_call = isinstance(parent, ast.Call) and parent.func is node
        as_init = isinstance(parent, ast.Attribute) and parent.attr == "__init__"
        own = node.id in classes and not (as_kind or as_base or as_call or as_init)
        pythons = node.id in CLASSES_OF_PYTHON and not (as_kind or as_call)
        if own or pythons:
            found.append(f"L18, L22 {node.id} in line {node.lineno}")
    return found


def faults_of_numbers_and_texts(tree):
    found = []
    for node in ast.walk(tree):
        if isinstance(node, ast.BinOp) and isinstance(node.op, ast.Pow):
            exponent = getattr(node.right, "value", None)
            if not isinstance(exponent, int) or not 0 <= exponent <= 64:
                found.append(f"L27 ** in line {node.lineno}")
        if isinstance(node, ast.Constant) and isinstance(node.value, str) and "%" in node.value:
            found.append(f"L27 a text in line {node.lineno}")
        if isinstance(node, ast.FormattedValue) and not isinstance(node.value, ast.Name):
            found.append(f"L7 an f-string in line {node.lineno}")
        if isinstance(node, ast.FormattedValue) and (node.format_spec or node.conversion not in (-1, ord("r"))):
            found.append(f"L7 an f-string in line {node.lineno}")
        if isinstance(node, ast.ListComp) and (len(node.generators) > 1 or len(node.generators[0].ifs) > 1):
            found.append(f"L7 a comprehension in line {node.lineno}")
    return found


def kept_at_the_top(tree):
    return {node.targets[0].id: node.value for node in tree.body if isinstance(node, ast.Assign)}


def faults_of_the_top(tree, parents):
    """L15: a list or dict of a file's top holds none itself, and is only read."""
    found = []
    kept = kept_at_the_top(tree)
    for name, value in kept.items():
        if any(isinstance(part, (ast.List, ast.Dict)) for part in ast.walk(value) if part is not value):
            found.append(f"L15 {name} holds a list or a dict")
    many = [name for name, value in kept.items() if isinstance(value, (ast.List, ast.Dict))]
    for node in ast.walk(tree):
        if isinstance(node, ast.Name) and node.id in many and isinstance(node.ctx, ast.Load):
            parent = parents[node]
            read = isinstance(parent, (ast.Subscript, ast.Compare, ast.For, ast.comprehension))
            asked = isinstance(parent, ast.Attribute) and parent.attr in READING
            copied = called(parent) in ("list", "dict", "tuple", "sorted", "len")
            stored = isinstance(parent, ast.Subscript) and not isinstance(parent.ctx, ast.Load)
            if stored or not (read or asked or copied):
                found.append(f"L15 {node.id} in line {node.lineno}")
    return found


def faults(sources):
    trees = {name: ast.parse(source) for name, source in sources.items()}
    every = [node for tree in trees.values() for node in ast.walk(tree) if isinstance(node, ast.ClassDef)]
    classes = {node.name for node in every}
    methods = {part.name for node in every for part in node.body if isinstance(part, ast.FunctionDef)}
    found = []
    for name, tree in trees.items():
        parents = with_parents(tree)
        told = faults_of_walks(tree, parents) + faults_of_loops(tree) + faults_of_sets(tree, parents)
        told += faults_of_keywords(tree) + faults_of_methods(tree, parents, methods) + faults_of_errors(tree, classes)
        told += faults_of_classes(tree, parents, classes) + faults_of_numbers_and_texts(tree)
        told += faults_of_the_top(tree, parents)
        found += [f"{name}: {fault}" for fault in told]
    return found


class Forms(unittest.TestCase):
    def test_the_package_keeps_to_the_rules(self):
        sources = {path.name: path.read_text(encoding="utf-8") for path in sorted(PACKAGE.glob("*.py"))}
        self.assertIn("desk.py", sources)
        self.assertEqual(faults(sources), [])

    def test_code_outside_the_rules_is_found(self):
        for source in (
            "def f(xs):\n    ys = zip(xs, xs)", "def f(d):\n    return d.items()", "def f(d):\n    ys = range(5)",
            "def f(xs):\n    for x in xs:\n        xs.append(x)", "def f(d):\n    for k in d:\n        d[k] = 1",
            "def f(d):\n    for p in d.items():\n        d.pop(p)",
            "def f(d):\n    for k in enumerate(d):\n        d.clear()",
            "def f(xs):\n    ys = set(xs)", "def f(xs):\n    for x in set(xs):\n        pass",
            "def f():\n    x = {1, 2}",
            "def f(xs):\n    return sum(xs, initial=0)", "def f(xs):\n    return xs.split(sep=1)",
            "class A:\n    def go(self):\n        return self.go", "def f():\n    raise ValueError",
            "def f():\n    try:\n        g()\n    except Exception:\n        pass",
            "def f():\n    try:\n        g()\n    except ValueError:\n        pass",
            "def f():\n    try:\n        g()\n    except TypeError:\n        pass",
            "class A:\n    pass\ndef f():\n    return [A]", "class A:\n    pass\ndef f(g):\n    return g(A)",
            "def f(xs):\n    return [int, str]", "def f(n):\n    return 2 ** n", "def f():\n    return 2 ** 65",
            "x = 'a % b'", "def f(x):\n    return f'{x[0]}'", "def f(x):\n    return f'{x:5}'", "x = [[1]]",
            "x = {1: [2]}", "x = [1]\ndef f():\n    return x", "x = [1]\ndef f():\n    x.append(1)",
            "x = {1: 2}\ndef f():\n    x[1] = 3", "def f(xs):\n    return [x for x in xs for y in x]",
        ):
            with self.subTest(source=source):
                self.assertNotEqual(faults({"a.py": source}), [])

    def test_code_within_the_rules_is_let_by(self):
        for source in (
            "def f(xs):\n    for x in enumerate(zip(xs, xs)):\n        pass", "def f(d):\n    return max(d.values())",
            "def f(d):\n    for k in list(d):\n        d.pop(k)", "def f(xs):\n    return sorted(set(xs))",
            "def f(xs, x):\n    return x in set(xs)", "def f(xs):\n    return len(set(xs)) == len(xs)",
            "def f(xs):\n    return sorted(xs, key=len, reverse=True)",
            "class A(ValueError):\n    pass\ndef f():\n    raise A('x')",
            "class A(ValueError):\n    pass\ndef f(g):\n    try:\n        g()\n    except A as e:\n        pass",
            "class A:\n    pass\ndef f(x):\n    return isinstance(x, A) or isinstance(x, (int, str))",
            "def f():\n    return 10 ** 30", "x = {1: (2, 3)}\ndef f(k):\n    return x.get(k)",
            "x = [1]\ndef f():\n    return list(x)",
        ):
            with self.subTest(source=source):
                self.assertEqual(faults({"a.py": source}), [])


if __name__ == "__main__":
    unittest.main()
