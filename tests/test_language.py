"""The form of the package's files: the rules of LANGUAGE.md that a tree of the code can show.

The names in brackets are the rules' numbers. Point [1] is held here too: no clock, no chance, no files.
"""

import ast
import builtins
import pathlib
import re
import unittest

PACKAGE = pathlib.Path(__file__).resolve().parent.parent / "kbestwood"

NODES = set("""Module FunctionDef ClassDef Return Assign AugAssign For While If Raise Try ExceptHandler Assert Delete
Expr Pass Break Continue ImportFrom alias arguments arg keyword BoolOp BinOp UnaryOp Lambda IfExp Dict Set ListComp
DictComp SetComp comprehension Compare Call JoinedStr FormattedValue Constant Attribute Subscript Starred Name List
Tuple Slice Load Store Del And Or Not Add Sub Mult FloorDiv Mod Pow LShift RShift BitOr BitXor BitAnd UAdd USub Invert
Eq NotEq Lt LtE Gt GtE Is IsNot In NotIn""".split())

OWN_NAMES = set("""len range enumerate zip min max sum abs sorted reversed int str bool bytes list tuple dict set
isinstance ord repr any all divmod Exception ValueError TypeError KeyError IndexError LookupError ZeroDivisionError
ArithmeticError OverflowError RuntimeError NotImplementedError AttributeError StopIteration""".split())

METHODS = set("""append clear copy count endswith extend find get index insert isalnum isalpha isdigit islower isspace
isupper items join keys ljust lower lstrip partition pop remove replace reverse rfind rjust rpartition rsplit rstrip
setdefault split splitlines startswith strip update upper values zfill bit_length title capitalize swapcase casefold
center removeprefix removesuffix rindex isascii isdecimal isnumeric istitle isidentifier isprintable sort add
discard""".split())

WORDS = re.compile(r"\b(type|typing|typing_extensions|enum|Enum|IntEnum|StrEnum|Flag|IntFlag|Generic|Protocol|ABC|"
                   r"ABCMeta|namedtuple|NamedTuple|TypedDict|TYPE_CHECKING|abstractmethod)\b|"
                   r"dataclass|overload|contextmanager")

TOP = (ast.FunctionDef, ast.ClassDef, ast.ImportFrom)
WALKED = ("zip", "enumerate", "reversed", "range", "items", "keys", "values")
WALKERS = ("list", "tuple", "dict", "sorted", "sum", "any", "all", "enumerate", "zip", "bytes", "min", "max")
NO_VALUES = set("""items keys values pop update append clear extend insert remove reverse setdefault sort args encode
decode hex fromhex format mro register elements open input""".split())

UNDERSCORED = {"__init__", "__eq__", "__repr__", "__str__", "__len__"}


def sign_faults(text):
    """Faults that the bare text shows."""
    faults = []
    lines = text.split("\n")
    if len(lines) > 401:
        faults.append("L10 a file of more than 400 lines")
    for number, line in enumerate(lines, start=1):
        if len(line) > 120:
            faults.append(f"L10 a long line: {number}")
        if any(not " " <= sign <= "~" for sign in line):
            faults.append(f"L14 a strange sign: {number}")
        if WORDS.search(line):
            faults.append(f"L17 a word that stands nowhere: {number}")
    return faults


def names_given(tree):
    """Each name that the code gives: defs, classes, parameters, names, values of objects."""
    for node in ast.walk(tree):
        if isinstance(node, (ast.FunctionDef, ast.ClassDef)):
            yield node.name
        elif isinstance(node, ast.arg):
            yield node.arg
        elif isinstance(node, ast.Name) and not isinstance(node.ctx, ast.Load):
            yield node.id
        elif isinstance(node, ast.Attribute):
            yield node.attr


def name_faults(tree):
    """Faults of names."""
    faults = []
    methods = {node for part in ast.walk(tree) if isinstance(part, ast.ClassDef) for node in part.body}
    for name in names_given(tree):
        if name.startswith("_") and name not in UNDERSCORED:
            faults.append(f"L12 a name with an underscore ahead: {name}")
    for node in ast.walk(tree):
        if isinstance(node, ast.Name) and hasattr(builtins, node.id) and node.id not in OWN_NAMES:
            faults.append(f"L8 {node.id}")
        given = [node.arg] if isinstance(node, ast.arg) else []
        if isinstance(node, ast.Name) and not isinstance(node.ctx, ast.Load):
            given.append(node.id)
        if isinstance(node, ast.FunctionDef) and node not in methods:
            given.append(node.name)
        faults.extend(f"L15 {name}" for name in given if hasattr(builtins, name))
    return faults


def node_faults(node):
    """Faults of one node by itself."""
    if type(node).__name__ not in NODES:
        return [f"L6 or L7 {type(node).__name__}"]
    if isinstance(node, (ast.For, ast.While)) and node.orelse:
        return ["L6 an else behind a loop"]
    if isinstance(node, ast.Constant) and isinstance(node.value, (float, complex, type(...))):
        return ["L7 a float"]
    if isinstance(node, ast.Constant) and isinstance(node.value, str) and "%" in node.value:
        return ["L27 a percent sign"]
    if isinstance(node, ast.Compare) and any(isinstance(sign, (ast.Is, ast.IsNot)) for sign in node.ops):
        if not any(isinstance(side, ast.Constant) for side in [node.left] + node.comparators):
            return ["L20 is"]
    if isinstance(node, ast.arguments) and (node.vararg or node.kwarg or node.posonlyargs):
        return ["L4 stars or a stroke among parameters"]
    if isinstance(node, (ast.FunctionDef, ast.ClassDef)) and node.decorator_list:
        return ["L4 a decorator"]
    if isinstance(node, ast.FunctionDef) and node.end_lineno - node.lineno >= 40:
        return [f"L10 a function of more than 40 lines: {node.name}"]
    return []


def import_faults(tree, defined):
    """Faults of imports; defined tells the names that each module of the package defines."""
    faults = []
    for node in ast.walk(tree):
        if isinstance(node, ast.ImportFrom):
            drawn = [alias.name for alias in node.names]
            if node.level or node not in tree.body or not set(drawn) <= defined.get(node.module, set()):
                faults.append(f"L2 or L16 an import from {node.module}")
    return faults


def top_faults(tree):
    """Faults of the top of a file, and of the bodies of classes."""
    faults = []
    functions, given = set(), []
    for node in tree.body[1:] if ast.get_docstring(tree) else tree.body:
        plain = isinstance(node, ast.Assign) and len(node.targets) == 1 and isinstance(node.targets[0], ast.Name)
        if plain and not is_plain(node.value, functions) or not plain and not isinstance(node, TOP):
            faults.append(f"L3 at the top of a file: line {node.lineno}")
        if plain and any(isinstance(part, (ast.List, ast.Dict)) for part in list(ast.walk(node.value))[1:]):
            faults.append(f"L15 a list or dict within another: line {node.lineno}")
        given.extend([node.targets[0].id] if plain else [alias.name for alias in getattr(node, "names", [])])
        if isinstance(node, ast.FunctionDef):
            functions.add(node.name)
        if isinstance(node, (ast.FunctionDef, ast.ClassDef)):
            given.append(node.name)
        if isinstance(node, ast.ClassDef):
            within = node.body[1:] if ast.get_docstring(node) else node.body
            if len(node.bases) > 1 or node.keywords or not all(isinstance(part, ast.FunctionDef) for part in within):
                faults.append(f"L5 {node.name}")
    return faults + [f"L15 {name} is given twice" for name in sorted(set(given)) if given.count(name) > 1]


def is_plain(node, functions):
    """Whether a value is written out, but for functions, which may stand within lists, tuples and dicts."""
    if isinstance(node, (ast.List, ast.Tuple)):
        return all(is_plain(part, functions) or getattr(part, "id", "") in functions for part in node.elts)
    if isinstance(node, ast.Dict):
        return all(is_plain(part, functions) or getattr(part, "id", "") in functions for part in node.keys + node.values)
    try:
        ast.literal_eval(node)
    except ValueError:
        return False
    return True


def own_name_faults(tree):
    """Parameters, locals and inner defs that are called like a class or an import of the file."""
    taken = {node.name for node in tree.body if isinstance(node, ast.ClassDef)}
    taken |= {alias.name for node in tree.body if isinstance(node, ast.ImportFrom) for alias in node.names}
    given = {node.arg for node in ast.walk(tree) if isinstance(node, ast.arg)}
    given |= {node.id for node in ast.walk(tree) if isinstance(node, ast.Name) and isinstance(node.ctx, ast.Store)}
    return [f"L15 {name}" for name in sorted(taken & given)]


def place_faults(tree):
    """Things that are kept, though they are to be walked on the spot; sets that are walked or handed on."""
    faults = []
    above = {kid: node for node in ast.walk(tree) for kid in ast.iter_child_nodes(node)}
    for node in above:
        holder = above[node]
        called = holder.func.id if isinstance(holder, ast.Call) and isinstance(holder.func, ast.Name) else ""
        walked = isinstance(holder, (ast.For, ast.comprehension)) and holder.iter is node
        asked = isinstance(holder, ast.Compare) and node in holder.comparators
        turned = called in ("reversed", "len") and is_call(node, ("range",))
        if is_call(node, WALKED) and not walked and not asked and not turned and called not in WALKERS:
            faults.append(f"L23 line {node.lineno}")
        kept = isinstance(holder, ast.Assign) and isinstance(holder.targets[0], ast.Name)
        if (isinstance(node, (ast.Set, ast.SetComp)) or is_call(node, ("set", "frozenset"))) and not kept and not asked:
            if called not in ("sorted", "len"):
                faults.append(f"L24 line {node.lineno}")
    return faults


def is_call(node, names):
    """Whether a node calls one of some names, by itself or as a method."""
    if not isinstance(node, ast.Call):
        return False
    return getattr(node.func, "id", getattr(node.func, "attr", "")) in names


def methods_in(tree):
    """The names of the methods of a file's classes."""
    return {part.name for node in tree.body if isinstance(node, ast.ClassDef) for part in node.body
            if isinstance(part, ast.FunctionDef)}


def value_faults(trees):
    """Names that are a method in one class and a value in another, and values that no class gives."""
    methods = set().union(*[methods_in(tree) for tree in trees])
    asked = [node for tree in trees for node in ast.walk(tree) if isinstance(node, ast.Attribute)]
    given = {node.attr for node in asked if isinstance(node.ctx, ast.Store)}
    called = {id(node.func) for tree in trees for node in ast.walk(tree) if isinstance(node, ast.Call)}
    faults = [f"L18 {name}" for name in sorted(methods & given)]
    faults.extend(f"L18 {node.attr}" for node in asked if id(node) not in called and node.attr not in given)
    return faults + [f"L26 {name}" for name in sorted(given & NO_VALUES)]


def has_ring(drawn):
    """Whether modules draw from one another in a ring; drawn tells from which modules each one draws."""
    while drawn:
        kept = {name: others & set(drawn) for name, others in drawn.items() if others & set(drawn)}
        if len(kept) == len(drawn):
            return True
        drawn = kept
    return False


def method_faults(tree, own):
    """Calls of methods that are neither the package's own nor among those of L25."""
    called = [node.func.attr for node in ast.walk(tree)
              if isinstance(node, ast.Call) and isinstance(node.func, ast.Attribute)]
    return [f"L25 {name}" for name in called if name not in METHODS | UNDERSCORED | own]


def faults_of(text, defined, own):
    """All faults of a file."""
    tree = ast.parse(text)
    faults = sign_faults(text) + name_faults(tree) + import_faults(tree, defined) + method_faults(tree, own)
    faults += top_faults(tree) + own_name_faults(tree) + place_faults(tree)
    for node in ast.walk(tree):
        faults.extend(node_faults(node))
    return faults


def top_names(tree):
    """The names that a file's top defines."""
    names = {node.name for node in tree.body if isinstance(node, (ast.FunctionDef, ast.ClassDef))}
    return names | {target.id for node in tree.body if isinstance(node, ast.Assign) for target in node.targets}


def package_texts():
    """The text of each file of the package, by its path."""
    return {path: path.read_text(encoding="utf-8") for path in sorted(PACKAGE.rglob("*.py"))}


class Language(unittest.TestCase):

    def test_nothing_else_lies_in_the_package(self):
        for path in PACKAGE.iterdir():
            if path.name != "__pycache__":
                with self.subTest(path=path.name):
                    self.assertRegex(path.name, r"\A([a-z][a-z0-9_]*|__init__|__main__)\.py\Z")

    def test_each_file_keeps_to_the_rules(self):
        trees = {path: ast.parse(text) for path, text in package_texts().items()}
        defined = {f"kbestwood.{path.stem}": top_names(tree) for path, tree in trees.items()}
        own = {node.name for tree in trees.values() for node in ast.walk(tree) if isinstance(node, ast.FunctionDef)}
        self.assertGreater(len(trees), 1)
        for path, text in package_texts().items():
            with self.subTest(path=path.name):
                self.assertEqual(faults_of(text, defined, own), [])

    def test_the_files_together(self):
        trees = {f"kbestwood.{path.stem}": ast.parse(text) for path, text in package_texts().items()}
        drawn = {name: {node.module for node in tree.body if isinstance(node, ast.ImportFrom)}
                 for name, tree in trees.items()}
        self.assertEqual(drawn["kbestwood.__init__"], set())
        self.assertFalse(has_ring(drawn))
        self.assertEqual(value_faults(trees.values()), [])

    def test_faults_of_files_together_are_seen(self):
        self.assertTrue(has_ring({"a": {"b"}, "b": {"c"}, "c": {"b"}}))
        self.assertFalse(has_ring({"a": {"b", "c"}, "b": {"c"}, "c": set()}))
        for text in ("class A:\n    def many(self):\n        return 1\n\ndef f(x):\n    x.many = 1", "def f(x):\n    return x.many",
                     "def f(x):\n    x.pop = 1"):
            self.assertNotEqual(value_faults([ast.parse(text)]), [])

    def test_faults_are_seen(self):
        defined = {"kbestwood.errors": {"NoLine"}}
        for text in ("import math", "from random import random", "from .errors import NoLine",
                     "from kbestwood.errors import Other", "def f():\n    from kbestwood.errors import NoLine",
                     "def f(x):\n    return x / 2", "HALF = 0.5", "def f(x):\n    return open(x)",
                     "def f(x):\n    return x.format()", "def f(sum):\n    return sum", "def f(*rest):\n    return rest",
                     "def f(x):\n    yield x", "def f(x):\n    return any(k for k in x)", "def _f():\n    pass",
                     "# the type of it", "# \u00e4", "\tX = 1".strip() + "\t", "X = '" + "a" * 120 + "'", "X = 1\n" * 401,
                     "def f(x):\n" + "    x += 1\n" * 40, "def f(x, y):\n    return x is y", "X = 'a%'", "X = len('a')",
                     "Y = 1\nX = Y + Y", "class A:\n    x = 1", "class A(B, C):\n    pass", "for k in [1]:\n    pass",
                     "from kbestwood.errors import NoLine\ndef f(NoLine):\n    return 1", "class A:\n    pass\ndef f():\n    A = 1",
                     "def f(x):\n    y = zip(x, x)\n    return y", "def f(x):\n    return x.items()",
                     "def f(x):\n    return f(range(x))", "def f(x):\n    return set(x)", "def f(x):\n    return f({k for k in x})",
                     "def f(x):\n    for k in {x, 1}:\n        f(k)", "X = [f]\ndef f():\n    return 1",
                     "def f():\n    return 1\nX = f", "X = [[1]]", "X = {1: {}}", "X = 1\nX = 2", "def f():\n    pass\nf = 1"):
            with self.subTest(text=text[:60]):
                self.assertNotEqual(faults_of(text, defined, set()), [])
        good = "from kbestwood.errors import NoLine\n\n\ndef f(x):\n    return [k for k in x if k is not None]\n"
        self.assertEqual(faults_of(good, defined, set()), [])
        self.assertEqual(faults_of("def f():\n    return 1\nX = {'a': f, 'b': (1, f)}", defined, set()), [])


if __name__ == "__main__":
    unittest.main()
