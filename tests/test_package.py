"""Looks at the package as a whole for breaches of ../shared/LANGUAGE.md that no file shows alone (L5, L18, L28).

Like a reader without kinds of values, it goes by names: a call `x.told()` may run each method of this name.
"""

import ast
import builtins
import unittest

from tests.test_language import METHODS, python_files, read

# What operators and properties are; these methods may change their own object.
CHANGING = ("__init__", "__setitem__", "__call__", "__enter__", "__exit__")
MODIFYING = set("append clear extend insert pop remove reverse setdefault update sort add discard".split())


def decorators(node):
    return [ast.unparse(decorator) for decorator in node.decorator_list]


class Package:
    """The functions, classes, methods, properties and attributes of some files, a dict from names to texts."""

    def __init__(self, files):
        self.functions, self.classes, self.methods = {}, {}, {}
        self.properties, self.setters, self.attributes = {}, set(), set()
        for path, text in files.items():
            self.read(path, ast.parse(text))

    def read(self, path, tree):
        for node in tree.body:
            if isinstance(node, ast.FunctionDef):
                self.functions.setdefault(node.name, []).append((path, node))
            elif isinstance(node, ast.ClassDef):
                self.classes[node.name] = (path, node)
                for part in node.body:
                    if isinstance(part, ast.FunctionDef):
                        self.method(path, node.name, part)
        for node in ast.walk(tree):
            if isinstance(node, ast.Attribute) and isinstance(node.ctx, ast.Store):
                self.attributes.add(node.attr)

    def method(self, path, owner, node):
        if "property" in decorators(node):
            self.properties.setdefault(node.name, []).append((path, owner, node))
        elif any(name.endswith(".setter") for name in decorators(node)):
            self.setters.add((owner, node.name))
        else:
            self.methods.setdefault(node.name, []).append((path, owner, node))

    def of_class(self, name):
        """The methods that making an object of a class may run."""
        if name not in self.classes:
            return []
        path, node = self.classes[name]
        own = [part for part in node.body if isinstance(part, ast.FunctionDef) and part.name == "__init__"]
        found = [(path, part) for part in own]
        calls_up = any("super().__init__" in ast.unparse(part) for part in own)
        if not own or calls_up:
            for base in node.bases:
                found += self.of_class(ast.unparse(base))
        return found


def twice(package):
    """L18: a word that is both a method of one class and an attribute, perhaps of another one."""
    yield from sorted(set(package.methods) & package.attributes)
    yield from sorted(set(package.methods) & set(package.properties))


def without_setter(package):
    """L5: a property of a name that some object is given, in a class without its setter."""
    for name, found in package.properties.items():
        for _, owner, _ in found:
            if name in package.attributes and (owner, name) not in package.setters:
                yield f"{owner}.{name}"


def generators_twice(package):
    """L23: a name of a generator that another function or method has, or a parameter or local variable."""
    found = [node for at in package.functions.values() for _, node in at]
    found += [node for at in package.methods.values() for _, _, node in at]
    kinds = (ast.Yield, ast.YieldFrom)
    yields = {node.name for node in found if any(isinstance(part, kinds) for part in ast.walk(node))}
    for node in found:
        if node.name in yields and sum(other.name == node.name for other in found) > 1:
            yield node.name
        for part in ast.walk(node):
            if isinstance(part, ast.Call) and isinstance(part.func, ast.Name) and part.func.id in assigned(node):
                if part.func.id in yields:
                    yield f"{node.name}: {part.func.id}"


def roots(package):
    """The operators and properties."""
    for found in package.properties.values():
        for path, _, node in found:
            yield path, node
    for name, found in package.methods.items():
        in_place = name.startswith("__i") and name not in ("__iter__", "__invert__")
        if name.startswith("__") and name not in CHANGING and not in_place:
            for path, _, node in found:
                yield path, node


def assigned(node):
    """From the local names of a function to all that they are assigned, None for a loop, a parameter and the like."""
    found = {arg.arg: [None] for arg in node.args.args + node.args.kwonlyargs}
    for rest in (node.args.vararg, node.args.kwarg):
        if rest is not None:
            found[rest.arg] = [None]
    values = {}
    for part in ast.walk(node):
        if isinstance(part, ast.Assign) and len(part.targets) == 1 and isinstance(part.targets[0], ast.Name):
            values[part.targets[0]] = part.value
    for part in ast.walk(node):
        if isinstance(part, ast.Name) and isinstance(part.ctx, ast.Store):
            found.setdefault(part.id, []).append(values.get(part))
    return found


def is_new(value):
    """Whether an expression plainly makes a new list or dict."""
    if isinstance(value, ast.Call):
        return ast.unparse(value.func) in ("list", "dict", "sorted", "set")
    return isinstance(value, (ast.List, ast.Dict, ast.ListComp, ast.DictComp))


def passed_on(node):
    """The names that a function passes to a call, other than of a few builtins."""
    for part in ast.walk(node):
        if isinstance(part, ast.Call) and ast.unparse(part.func) not in ("len", "sorted", "sum", "range", "tuple"):
            for value in part.args + [keyword.value for keyword in part.keywords]:
                for inner in ast.walk(value):
                    if isinstance(inner, ast.Name):
                        yield inner.id


class Reached:
    """What operators and properties run, and which of it changes what it did not create, or calls what it is passed."""

    def __init__(self, package):
        self.package, self.seen, self.wrong = package, [], []
        self.waiting = list(roots(package))
        while self.waiting:
            path, node = self.waiting.pop()
            if node not in self.seen:
                self.seen.append(node)
                self.look(path, node)

    def blame(self, path, node, part):
        self.wrong.append(f"{path} {node.name}, row {part.lineno}: {ast.unparse(part)}")

    def look(self, path, node):
        values, passed = assigned(node), set(passed_on(node))
        for part in ast.walk(node):
            if isinstance(part, (ast.AugAssign, ast.With, ast.Yield, ast.Nonlocal, ast.Delete)):
                self.blame(path, node, part)
            elif isinstance(part, ast.Call):
                self.call(path, node, part, values, passed)
            elif isinstance(part, ast.Subscript) and isinstance(part.ctx, ast.Store):
                if not self.may_change(part.value, values, passed):
                    self.blame(path, node, part)
            elif isinstance(part, ast.Attribute) and isinstance(part.ctx, ast.Store):
                if not self.may_give(node, part, values):
                    self.blame(path, node, part)

    def may_change(self, value, values, passed):
        """Whether a list or dict plainly is a new one that nothing else knows."""
        if not isinstance(value, ast.Name) or value.id in passed:
            return False
        return value.id in values and all(is_new(given) for given in values[value.id])

    def may_give(self, node, part, values):
        """Whether an attribute is one of an object that is being made."""
        if not isinstance(part.value, ast.Name):
            return False
        if node.name == "__init__" and part.value.id == "self":
            return True
        given = values.get(part.value.id, [None])
        return all(isinstance(v, ast.Call) and ast.unparse(v.func) in self.package.classes for v in given)

    def call(self, path, node, part, values, passed):
        called = part.func
        if isinstance(called, ast.Name):
            if called.id in values or not self.reach(path, called.id):
                self.blame(path, node, part)
        elif isinstance(called, ast.Attribute):
            if ast.unparse(called) == "super().__init__":
                return
            found = self.package.methods.get(called.attr, [])
            self.waiting.extend((at, method) for at, _, method in found)
            if called.attr in MODIFYING and not self.may_change(called.value, values, passed):
                self.blame(path, node, part)
            if not found and called.attr not in METHODS:
                self.blame(path, node, part)
        else:
            self.blame(path, node, part)

    def reach(self, path, name):
        """Go on to what a bare name runs; whether it is known."""
        if name in self.package.functions:
            own = [found for found in self.package.functions[name] if found[0] == path]
            self.waiting.extend(own or self.package.functions[name])
            return True
        if name in self.package.classes:
            self.waiting.extend(self.package.of_class(name))
            return True
        return hasattr(builtins, name) or name in ("gcd", "lcm")


SAMPLES = [
    (twice, "class A:\n    def f(self):\n        pass\nclass B:\n    def __init__(self):\n        self.f = 1"),
    (generators_twice, "def f():\n    yield 1\nclass A:\n    def f(self):\n        pass"),
    (generators_twice, "def f():\n    yield 1\ndef g(f):\n    f()"),
    (without_setter, "class A:\n    @property\n    def f(self):\n        pass\ndef g(x):\n    x.f = 1"),
]
# Operators that change or call something, each through something else.
CHANGES = [
    "class A:\n    def __add__(self, other):\n        return g(self)\ndef g(x):\n    x.n = 1",
    "class A:\n    @property\n    def p(self):\n        return self.f()\n    def f(self):\n        self.n = 1",
    "class A:\n    def __init__(self, x):\n        self.x = x\n    def __len__(self):\n        return self.x()",
    "class A:\n    def __eq__(self, other):\n        return g(other)\ndef g(f):\n    return f()",
    "class A:\n    def __neg__(self):\n        self.rows.append(1)",
    "class A:\n    def __mul__(self, other):\n        return A({})\n    def __init__(self, d):\n        d[1] = 2",
    "class A:\n    def __init__(self):\n        d = {1: 2}\n        d[3] = 4\n        self.f(d)\n"
    "    def f(self, d):\n        pass\n    def __abs__(self):\n        return A()",
]
FINE = """
class A:
    def __init__(self, rows):
        self.rows = list(rows)
    def __add__(self, other):
        found = []
        for row in other.rows:
            found.append(row)
        made = A(self.rows)
        made.rows = found
        return made
    def f(self):
        self.rows.append(1)
"""


class TestPackage(unittest.TestCase):
    def test_package(self):
        package = Package({path: read(path) for path in python_files()})
        self.assertEqual([list(twice(package)), list(without_setter(package))], [[], []])
        self.assertEqual(list(generators_twice(package)), [])
        self.assertEqual(Reached(package).wrong, [])

    def test_breaches_are_found(self):
        for check, text in SAMPLES:
            self.assertTrue(list(check(Package({"x": text}))), text)
        for text in CHANGES:
            self.assertTrue(Reached(Package({"x": text})).wrong, text)
        package = Package({"x": FINE})
        self.assertEqual([list(twice(package)), list(without_setter(package)), Reached(package).wrong], [[], [], []])


if __name__ == "__main__":
    unittest.main()
