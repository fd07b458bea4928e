"""Looks at the files of the package for breaches of ../shared/LANGUAGE.md, as far as a short test can tell them.

Each check takes the text of a file and yields what breaks a rule; the samples at the end show that it finds some.
"""

import ast
import builtins
import io
import os
import re
import tokenize
import unittest
import warnings

from tests.helper import PACKAGE

LIBRARY = {
    "heapq": "heappush heappop heapify heapreplace heappushpop",
    "math": "gcd lcm isqrt comb perm factorial",
    "itertools": "product combinations permutations chain accumulate pairwise islice zip_longest",
    "collections": "defaultdict",
}
METHODS = set("""append clear copy count endswith extend find get index insert isalnum isalpha isdigit islower isspace
isupper items join keys ljust lower lstrip partition pop remove replace reverse rfind rjust rpartition rsplit rstrip
setdefault split splitlines startswith strip update upper values zfill bit_length title capitalize swapcase casefold
center expandtabs removeprefix removesuffix rindex isascii isdecimal isnumeric istitle isidentifier isprintable
translate maketrans sort format add discard""".split())
BUILTINS = set("""len range enumerate zip min max sum abs sorted reversed int str bool list tuple dict set isinstance
ord repr any all divmod pow getattr hasattr setattr iter next map super property staticmethod classmethod Exception
ValueError TypeError KeyError IndexError LookupError ZeroDivisionError ArithmeticError OverflowError RuntimeError
NotImplementedError AttributeError StopIteration NotImplemented object""".split())
OPERATORS = set("""add sub mul floordiv mod pow and or xor lshift rshift""".split())
DOUBLE = {f"__{name}__" for name in set("""init eq repr str len enter exit call iter lt le gt ge ne neg pos invert abs
bool contains getitem setitem""".split()) | OPERATORS | {"i" + name for name in OPERATORS}
    | {"r" + name for name in OPERATORS - {"pow"}}}
CATCHABLE = {"KeyError", "ZeroDivisionError", "StopIteration", "ValueError", "LookupError", "IndexError"}
BARRED_NAMES = set("""register mro elements open input law version_info with_traceback add_note attrgetter breakpoint
builtins compile copyright credits delattr dir eval exec exit gc globals help id importlib license locals methodcaller
os quit type vars sys""".split())
BARRED_WORDS = re.compile(r"\b(type|typing|typing_extensions|enum|Enum|IntEnum|StrEnum|Flag|IntFlag|Generic|Protocol"
                          r"|ABC|ABCMeta|namedtuple|NamedTuple|TypedDict|TYPE_CHECKING|abstractmethod)\b"
                          r"|dataclass|overload|contextmanager|Meta\b|_wall|_WallAttr")
FORBIDDEN = (ast.Import, ast.Global, ast.AsyncFunctionDef, ast.AsyncFor, ast.AsyncWith, ast.Await, ast.Div, ast.MatMult,
             ast.TryStar)


def python_files():
    """The paths of the package's files, from its top; what Python itself leaves there does not count."""
    found = []
    for folder, folders, files in os.walk(PACKAGE):
        folders[:] = [name for name in folders if name != "__pycache__"]
        found.extend(os.path.relpath(os.path.join(folder, name), PACKAGE) for name in files)
    return sorted(found)


def read(path):
    with open(os.path.join(PACKAGE, path), encoding="ascii", newline="") as file:
        return file.read()


def docstrings(tree):
    owners = [node for node in ast.walk(tree) if isinstance(node, (ast.Module, ast.ClassDef, ast.FunctionDef))]
    return [node.body[0].value for node in owners if ast.get_docstring(node, clean=False) is not None]


def sizes(text):
    """L10, L14."""
    lines = text.split("\n")
    if len(lines) > 400:
        yield "L10 file too long"
    for at, line in enumerate(lines, 1):
        if len(line) > 120 or re.search(r"[^ -~]", line):
            yield f"L10, L14 line {at}"
    for node in ast.walk(ast.parse(text)):
        if isinstance(node, ast.FunctionDef) and node.end_lineno - node.lineno >= 40:
            yield f"L10 {node.name} too long"


def imports(text):
    """L2, L16: what is imported, and that imports stand at the top."""
    body = ast.parse(text).body
    top = body[1:] if ast.get_docstring(ast.parse(text)) is not None else body
    ahead = [isinstance(node, ast.ImportFrom) for node in top]
    if ahead != sorted(ahead, reverse=True):
        yield "L2 an import below the top"
    for node in [node for node in ast.walk(ast.parse(text)) if isinstance(node, ast.ImportFrom)]:
        known = importable(node)
        for name in node.names:
            if name.name not in known or name.asname and node.module in LIBRARY:
                yield f"L2, L16 line {node.lineno}: {name.name}"


def importable(node):
    """The names that may be imported from the module that an import names."""
    if node.level or node.module.split(".")[0] not in ("holeshift", "__future__", *LIBRARY):
        return []
    if node.module == "__future__":
        return ["annotations"]
    if node.module in LIBRARY:
        return LIBRARY[node.module].split()
    return defined(read(file_of(node.module)))


def file_of(module):
    return "/".join(module.split(".")[1:]) + ".py"


def defined(text):
    """The names that a file itself defines at module level."""
    body = ast.parse(text).body
    names = [node.name for node in body if isinstance(node, (ast.FunctionDef, ast.ClassDef))]
    return names + [ast.unparse(node.targets[0]) for node in body if isinstance(node, ast.Assign)]


def module_level(text):
    """L3, L15: only plain values, functions and classes, each name once."""
    tree = ast.parse(text)
    for node in tree.body:
        if isinstance(node, ast.Assign):
            calls = [part for part in ast.walk(node.value) if isinstance(part, (ast.Call, ast.Set, ast.ListComp))]
            if len(node.targets) > 1 or not isinstance(node.targets[0], ast.Name) or calls:
                yield f"L3 line {node.lineno}"
        elif not isinstance(node, (ast.ImportFrom, ast.FunctionDef, ast.ClassDef)):
            if not (isinstance(node, ast.Expr) and node.value in docstrings(tree)):
                yield f"L3 line {node.lineno}"
    names = defined(text) + [name.name for node in tree.body if isinstance(node, ast.ImportFrom) for name in node.names]
    if len(names) != len(set(names)):
        yield "L15 a name bound twice"


def classes(text):
    """L4, L5, L18: decorators, double-underscore methods, methods defined once."""
    tree = ast.parse(text)
    inside = [part for node in ast.walk(tree) if isinstance(node, ast.ClassDef) for part in node.body]
    for node in ast.walk(tree):
        if isinstance(node, (ast.FunctionDef, ast.ClassDef)):
            for decorator in node.decorator_list:
                known = ("property", "staticmethod", "classmethod", f"{node.name}.setter")
                if node not in inside or ast.unparse(decorator) not in known:
                    yield f"L4, L5 line {node.lineno}"
        if isinstance(node, ast.FunctionDef) and node.name.startswith("__"):
            if node.name not in DOUBLE or node not in inside:
                yield f"L5 {node.name}"
        if isinstance(node, ast.ClassDef):
            methods = [part for part in node.body if isinstance(part, ast.FunctionDef)]
            names = [part.name for part in methods if "setter" not in "".join(map(ast.unparse, part.decorator_list))]
            if len(names) != len(set(names)):
                yield f"L18 {node.name} defines a method twice"
            if "__getitem__" in names and "__iter__" not in names:
                first = ast.unparse(methods[names.index("__getitem__")].body[0])
                if not re.fullmatch(r"\(?\w+, \w+\)? = \w+", first):
                    yield f"L5 {node.name} is not iterated over by an __iter__"


def statements(text):
    """L6, L7, L8, L20, L23: what does not occur at all."""
    tree = ast.parse(text)
    direct = [part for node in ast.walk(tree) if isinstance(node, ast.Call)
              and (ast.unparse(node.func) in ("list", "tuple", "dict") or ast.unparse(node.func).endswith(".join"))
              for part in node.args]
    for node in ast.walk(tree):
        if isinstance(node, FORBIDDEN) or isinstance(node, ast.Constant) and isinstance(node.value, (float, complex)):
            yield f"L6, L7 {node.__class__.__name__}"
        if isinstance(node, ast.GeneratorExp) and node not in direct:
            yield f"L7 line {node.lineno}: a generator expression"
        if isinstance(node, ast.Compare):
            sides = [node.left, *node.comparators]
            for sign, one, other in zip(node.ops, sides, sides[1:]):
                plain = [isinstance(side, ast.Constant) and side.value in (None, True, False) for side in (one, other)]
                if isinstance(sign, (ast.Is, ast.IsNot)) and not any(plain):
                    yield f"L20 line {node.lineno}"
        if isinstance(node, ast.Name) and hasattr(builtins, node.id) and node.id not in BUILTINS:
            yield f"L8 line {node.lineno}: {node.id}"
        if isinstance(node, ast.Name) and node.id in BUILTINS and not isinstance(node.ctx, ast.Load):
            yield f"L8, L15 line {node.lineno}: {node.id}"


def is_plain(node):
    """L5: whether an expression is plainly a number or a string, or a list of such."""
    if isinstance(node, ast.Call):
        name = ast.unparse(node.func)
        return name in ("len", "int", "ord", "str", "repr", "range") or name == "set" and is_plain(node.args[0])
    if isinstance(node, ast.BinOp):
        return is_plain(node.left) and is_plain(node.right)
    return isinstance(node, (ast.Constant, ast.JoinedStr)) or isinstance(node, ast.ListComp) and is_plain(node.elt)


def orders(text):
    """L5: what sorted, min and max take beside a class with an order; no sort, and reversed of plain lists alone."""
    for node in ast.walk(ast.parse(text)):
        if not isinstance(node, ast.Call):
            continue
        name = ast.unparse(node.func)
        if name in ("sorted", "min", "max"):
            keys = [ast.unparse(key.value) for key in node.keywords if key.arg == "key"]
            if keys not in (["len"], ["int"], ["str"]) and not any(is_plain(part) for part in node.args):
                yield f"L5 line {node.lineno}: {name}"
        if name.endswith(".sort") or name == "reversed" and not isinstance(node.args[0], (ast.Call, ast.List)):
            yield f"L5 line {node.lineno}: {name}"


def kept(text):
    """L23: no kept range, zip or view in a double-underscore method other than __init__; no values told by a method."""
    tree = ast.parse(text)
    for node in ast.walk(tree):
        if isinstance(node, ast.FunctionDef) and node.name.startswith("__") and node.name != "__init__":
            for part in ast.walk(node):
                if isinstance(part, ast.Assign) and isinstance(part.value, ast.Call):
                    called = ast.unparse(part.value.func)
                    if re.search(r"^(range|zip|enumerate|reversed)$|\.(items|keys|values)$", called):
                        yield f"L23 line {part.lineno}"
        if isinstance(node, ast.FunctionDef) and node.name in ("items", "keys", "values"):
            yield f"L26 line {node.lineno}"


def names(text):
    """L12, L15, L17: names of all kinds."""
    tree = ast.parse(text)
    methods = [part for node in ast.walk(tree) if isinstance(node, ast.ClassDef) for part in node.body]
    for node in ast.walk(tree):
        own = getattr(node, "name", None) or getattr(node, "arg", None) or getattr(node, "id", None)
        if not isinstance(own, str) or isinstance(node, ast.alias) or own in DOUBLE:
            continue
        if own.startswith("__") or own != "_" and not re.fullmatch(r"_?[A-Za-z][A-Za-z0-9_]*", own):
            yield f"L12 {own}"
        function = isinstance(node, (ast.FunctionDef, ast.arg)) and (node not in methods or own in BUILTINS)
        if own in BARRED_NAMES or function and hasattr(builtins, own):
            yield f"L15, L17 {own}"


def shadows(text):
    """L15: no parameter, local variable or nested function has the name of a class or an import of its file."""
    tree = ast.parse(text)
    known = {name.asname or name.name for node in tree.body if isinstance(node, ast.ImportFrom) for name in node.names}
    known |= {node.name for node in tree.body if isinstance(node, ast.ClassDef)}
    for node in ast.walk(tree):
        local = isinstance(node, ast.Name) and isinstance(node.ctx, ast.Store) and node.id
        own = local or isinstance(node, ast.arg) and node.arg or isinstance(node, ast.ExceptHandler) and node.name
        if own in known:
            yield f"L15 line {node.lineno}: {own}"


def lambdas(text):
    """L13: no two lambdas whose parameters have the same names on one line; no default values in them."""
    lines = {}
    for node in ast.walk(ast.parse(text)):
        if isinstance(node, ast.Lambda):
            names = (node.lineno, *[arg.arg for arg in node.args.args])
            if names in lines or node.args.defaults:
                yield f"L13 line {node.lineno}"
            lines[names] = True


def errors_caught(text):
    """L19: handlers name own errors or a few of Python's; what is raised is created on the spot."""
    for node in ast.walk(ast.parse(text)):
        if isinstance(node, ast.ExceptHandler):
            caught = node.type.elts if isinstance(node.type, ast.Tuple) else [node.type]
            for error in caught:
                if error is None or hasattr(builtins, ast.unparse(error)) and ast.unparse(error) not in CATCHABLE:
                    yield f"L19 line {node.lineno}"
        if isinstance(node, ast.Raise) and node.exc is not None:
            if not isinstance(node.exc, ast.Call) or not isinstance(node.exc.func, ast.Name):
                yield f"L19 line {node.lineno}"


def strings(text):
    """L17, L27: words and characters that strings and names do not have."""
    docs = [(node.lineno, node.col_offset) for node in docstrings(ast.parse(text))]
    for token in tokenize.generate_tokens(io.StringIO(text).readline):
        if token.type == tokenize.COMMENT or token.type == tokenize.STRING and token.start in docs:
            continue
        if BARRED_WORDS.search(token.string):
            yield f"L17 line {token.start[0]}: {token.string}"
        if token.type == tokenize.STRING:
            if "%" in token.string or re.search(r"\\[^nt\\'\"]", token.string) or "__" in token.string:
                yield f"L27 line {token.start[0]}"
    for node in ast.walk(ast.parse(text)):
        if isinstance(node, ast.BinOp) and isinstance(node.op, ast.Pow):
            if isinstance(node.right, ast.Constant) and not 0 <= node.right.value <= 64:
                yield f"L27 line {node.lineno}"


def python_warnings(text):
    """L27: no line for which Python itself gives a warning."""
    with warnings.catch_warnings(record=True) as found:
        warnings.simplefilter("always")
        compile(text, "file", "exec")
    for warning in found:
        yield f"L27 {warning.message}"


CHECKS = [
    sizes, imports, module_level, classes, statements, orders, kept, names, shadows, lambdas, errors_caught, strings,
    python_warnings,
]


class TestLanguage(unittest.TestCase):
    def test_files(self):
        files = python_files()
        self.assertIn("__init__.py", files)
        self.assertLessEqual(len(files), 100)
        for path in files:
            self.assertRegex(path, r"^([a-z0-9_]+/)*[a-z0-9_]+\.py$", "L1, L14")
            self.assertIn(os.path.join(os.path.dirname(path), "__init__.py"), files, "L14")

    def test_each_check(self):
        for path in python_files():
            for check in CHECKS:
                with self.subTest(path=path, check=check.__name__):
                    self.assertEqual(list(check(read(path))), [])

    def test_no_two_files_import_from_each_other(self):
        needs = {}
        for path in python_files():
            found = [node.module for node in ast.walk(ast.parse(read(path))) if isinstance(node, ast.ImportFrom)]
            needs[path] = [file_of(name) for name in found if name.startswith("holeshift.")]
        while needs:
            ready = [path for path in needs if not any(need in needs for need in needs[path])]
            self.assertTrue(ready, f"L16 a circle among {sorted(needs)}")
            for path in ready:
                del needs[path]

    def test_attributes_are_assigned_somewhere(self):
        known, used = set(METHODS), set()
        for path in python_files():
            for node in ast.walk(ast.parse(read(path))):
                if isinstance(node, ast.ClassDef):
                    known.update(part.name for part in node.body if isinstance(part, ast.FunctionDef))
                    known.update(part.targets[0].id for part in node.body if isinstance(part, ast.Assign))
                elif isinstance(node, ast.Attribute):
                    (known if isinstance(node.ctx, ast.Store) else used).add(node.attr)
        self.assertEqual(used - known, {"setter"}, "L18, L25")

    def test_the_checks_find_breaches(self):
        for check, samples in {
            sizes: ["x = 1" + " " * 120, "x = 1\t", "def f():\n" + "    pass\n" * 40],
            imports: ["from os import path", "from . import x", "from math import sin", "x = 1\nfrom math import gcd",
                      "from holeshift.names import BadName", "from holeshift.names import *"],
            module_level: ["x = len('a')", "x, y = 1, 2", "x = y = 1", "for x in (1, 2):\n    pass", "x = 1\nx = 2"],
            classes: ["class A:\n    def __hash__(self):\n        return 1", "@made\nclass A:\n    pass",
                      "class A:\n    def f(self):\n        pass\n    def f(self):\n        pass",
                      "class A:\n    def __getitem__(self, at):\n        return at"],
            statements: ["x = 1 / 2", "x = 0.5", "import os", "x = any(y for y in z)", "x = y is z", "print(1)",
                         "len = 3"],
            orders: ["sorted(xs)", "max(a, b)", "xs.sort()", "min(xs, key=abs)", "sorted(set(xs))", "reversed(xs)"],
            kept: ["def __mul__(self, other):\n    xs = range(3)", "def __eq__(self, other):\n    xs = d.items()",
                   "def values(self):\n    pass"],
            names: ["def type():\n    pass", "def f(max):\n    pass", "__x = 1", "law = 1"],
            shadows: ["from a import b\ndef f(b):\n    pass", "from a import b\ndef f():\n    return [b for b in ()]",
                      "class A:\n    pass\ndef f():\n    for A in ():\n        pass"],
            lambdas: ["f(lambda x: x, lambda x: 1)", "f(lambda x=1: x)"],
            errors_caught: ["try:\n    pass\nexcept TypeError:\n    pass", "try:\n    pass\nexcept:\n    pass",
                            "raise x", "raise a.b()"],
            strings: ["x = 'a % b'", "x = '\\x41'", "x = 'the type'", "x = 2 ** 65", "x = '__x__'"],
            python_warnings: ["x = 1if 2 else 3"],
        }.items():
            for sample in samples:
                self.assertTrue(list(check(sample)), sample)


if __name__ == "__main__":
    unittest.main()
