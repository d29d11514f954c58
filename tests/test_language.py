"""The form of the package's files: the rules of LANGUAGE.md that a tree of the code can show.

The names in brackets are the rules' numbers. Point [1] is held here too: no clock, no chance, no files.
"""

import ast
import builtins
import pathlib
import re
import unittest

PACKAGE = pathlib.Path(__file__).resolve().parent.parent / "kbestwood"

NODES = set("""Module FunctionDef ClassDef Return Assign AugAssign For While If Raise Try ExceptHandler Assert Delete
Expr Pass Break Continue ImportFrom alias arguments arg keyword BoolOp BinOp UnaryOp Lambda IfExp Dict Set ListComp
DictComp SetComp comprehension Compare Call JoinedStr FormattedValue Constant Attribute Subscript Starred Name List
Tuple Slice Load Store Del And Or Not Add Sub Mult FloorDiv Mod Pow LShift RShift BitOr BitXor BitAnd UAdd USub Invert
Eq NotEq Lt LtE Gt GtE Is IsNot In NotIn""".split())

OWN_NAMES = set("""len range enumerate zip min max sum abs sorted reversed int str bool bytes list tuple dict set
isinstance ord repr any all divmod Exception ValueError TypeError KeyError IndexError LookupError ZeroDivisionError
ArithmeticError OverflowError RuntimeError NotImplementedError AttributeError StopIteration""".split())

METHODS = set("""append clear copy count endswith extend find get index insert isalnum isalpha isdigit islower isspace
isupper items join keys ljust lower lstrip partition pop remove replace reverse rfind rjust rpartition rsplit rstrip
setdefault split splitlines startswith strip update upper values zfill bit_length title capitalize swapcase casefold
center removeprefix removesuffix rindex isascii isdecimal isnumeric istitle isidentifier isprintable sort add
discard""".split())

WORDS = re.compile(r"\b(type|typing|typing_extensions|enum|Enum|IntEnum|StrEnum|Flag|IntFlag|Generic|Protocol|ABC|"
                   r"ABCMeta|namedtuple|NamedTuple|TypedDict|TYPE_CHECKING|abstractmethod)\b|"
                   r"dataclass|overload|contextmanager")

UNDERSCORED = {"__init__", "__eq__", "__repr__", "__str__", "__len__"}


def sign_faults(text):
    """Faults that the bare text shows."""
    faults = []
    lines = text.split("\n")
    if len(lines) > 401:
        faults.append("L10 a file of more than 400 lines")
    for number, line in enumerate(lines, start=1):
        if len(line) > 120:
            faults.append(f"L10 a long line: {number}")
        if any(not " " <= sign <= "~" for sign in line):
            faults.append(f"L14 a strange sign: {number}")
        if WORDS.search(line):
            faults.append(f"L17 a word that stands nowhere: {number}")
    return faults


def names_given(tree):
    """Each name that the code gives: defs, classes, parameters, names, values of objects."""
    for node in ast.walk(tree):
        if isinstance(node, (ast.FunctionDef, ast.ClassDef)):
            yield node.name
        elif isinstance(node, ast.arg):
            yield node.arg
        elif isinstance(node, ast.Name) and not isinstance(node.ctx, ast.Load):
            yield node.id
        elif isinstance(node, ast.Attribute):
            yield node.attr


def name_faults(tree):
    """Faults of names."""
    faults = []
    methods = {node for part in ast.walk(tree) if isinstance(part, ast.ClassDef) for node in part.body}
    for name in names_given(tree):
        if name.startswith("_") and name not in UNDERSCORED:
            faults.append(f"L12 a name with an underscore ahead: {name}")
    for node in ast.walk(tree):
        if isinstance(node, ast.Name) and hasattr(builtins, node.id) and node.id not in OWN_NAMES:
            faults.append(f"L8 {node.id}")
        given = [node.arg] if isinstance(node, ast.arg) else []
        if isinstance(node, ast.Name) and not isinstance(node.ctx, ast.Load):
            given.append(node.id)
        if isinstance(node, ast.FunctionDef) and node not in methods:
            given.append(node.name)
        faults.extend(f"L15 {name}" for name in given if hasattr(builtins, name))
    return faults


def node_faults(node):
    """Faults of one node by itself."""
    if type(node).__name__ not in NODES:
        return [f"L6 or L7 {type(node).__name__}"]
    if isinstance(node, (ast.For, ast.While)) and node.orelse:
        return ["L6 an else behind a loop"]
    if isinstance(node, ast.Constant) and isinstance(node.value, (float, complex, type(...))):
        return ["L7 a float"]
    if isinstance(node, ast.Constant) and isinstance(node.value, str) and "%" in node.value:
        return ["L27 a percent sign"]
    if isinstance(node, ast.Compare) and any(isinstance(sign, (ast.Is, ast.IsNot)) for sign in node.ops):
        if not any(isinstance(side, ast.Constant) for side in [node.left] + node.comparators):
            return ["L20 is"]
    if isinstance(node, ast.arguments) and (node.vararg or node.kwarg or node.posonlyargs):
        return ["L4 stars or a stroke among parameters"]
    if isinstance(node, (ast.FunctionDef, ast.ClassDef)) and node.decorator_list:
        return ["L4 a decorator"]
    if isinstance(node, ast.FunctionDef) and node.end_lineno - node.lineno >= 40:
        return [f"L10 a function of more than 40 lines: {node.name}"]
    return []


def import_faults(tree, defined):
    """Faults of imports; defined tells the names that each module of the package defines."""
    faults = []
    for node in ast.walk(tree):
        if isinstance(node, ast.ImportFrom):
            drawn = [alias.name for alias in node.names]
            if node.level or node not in tree.body or not set(drawn) <= defined.get(node.module, set()):
                faults.append(f"L2 or L16 an import from {node.module}")
    return faults


def method_faults(tree, own):
    """Calls of methods that are neither the package's own nor among those of L25."""
    called = [node.func.attr for node in ast.walk(tree)
              if isinstance(node, ast.Call) and isinstance(node.func, ast.Attribute)]
    return [f"L25 {name}" for name in called if name not in METHODS | UNDERSCORED | own]


def faults_of(text, defined, own):
    """All faults of a file."""
    tree = ast.parse(text)
    faults = sign_faults(text) + name_faults(tree) + import_faults(tree, defined) + method_faults(tree, own)
    for node in ast.walk(tree):
        faults.extend(node_faults(node))
    return faults


def top_names(tree):
    """The names that a file's top defines."""
    names = {node.name for node in tree.body if isinstance(node, (ast.FunctionDef, ast.ClassDef))}
    return names | {target.id for node in tree.body if isinstance(node, ast.Assign) for target in node.targets}


def package_texts():
    """The text of each file of the package, by its path."""
    return {path: path.read_text(encoding="utf-8") for path in sorted(PACKAGE.rglob("*.py"))}


class Language(unittest.TestCase):

    def test_nothing_else_lies_in_the_package(self):
        for path in PACKAGE.iterdir():
            if path.name != "__pycache__":
                with self.subTest(path=path.name):
                    self.assertRegex(path.name, r"\A([a-z][a-z0-9_]*|__init__|__main__)\.py\Z")

    def test_each_file_keeps_to_the_rules(self):
        trees = {path: ast.parse(text) for path, text in package_texts().items()}
        defined = {f"kbestwood.{path.stem}": top_names(tree) for path, tree in trees.items()}
        own = {node.name for tree in trees.values() for node in ast.walk(tree) if isinstance(node, ast.FunctionDef)}
        self.assertGreater(len(trees), 1)
        for path, text in package_texts().items():
            with self.subTest(path=path.name):
                self.assertEqual(faults_of(text, defined, own), [])

    def test_faults_are_seen(self):
        defined = {"kbestwood.errors": {"NoLine"}}
        for text in ("import math", "from random import random", "from .errors import NoLine",
                     "from kbestwood.errors import Other", "def f():\n    from kbestwood.errors import NoLine",
                     "def f(x):\n    return x / 2", "HALF = 0.5", "def f(x):\n    return open(x)",
                     "def f(x):\n    return x.format()", "def f(sum):\n    return sum", "def f(*rest):\n    return rest",
                     "def f(x):\n    yield x", "def f(x):\n    return any(k for k in x)", "def _f():\n    pass",
                     "# the type of it", "# \u00e4", "\tX = 1".strip() + "\t", "X = '" + "a" * 120 + "'", "X = 1\n" * 401,
                     "def f(x):\n" + "    x += 1\n" * 40, "def f(x, y):\n    return x is y", "X = 'a%'"):
            with self.subTest(text=text[:60]):
                self.assertNotEqual(faults_of(text, defined, set()), [])
        good = "from kbestwood.errors import NoLine\n\n\ndef f(x):\n    return [k for k in x if k is not None]\n"
        self.assertEqual(faults_of(good, defined, set()), [])


if __name__ == "__main__":
    unittest.main()
