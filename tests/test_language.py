"""The rules of LANGUAGE.md that a short look at the source can see."""

import ast
import os
import re
import unittest
import warnings

PACKAGE = os.path.join(os.path.dirname(os.path.dirname(os.path.abspath(__file__))), "swapslip")

BUILTINS = """len range enumerate zip min max sum abs sorted reversed int str bool list tuple dict set isinstance
ord repr any all divmod iter next super property staticmethod classmethod Exception ValueError TypeError KeyError
IndexError LookupError ZeroDivisionError ArithmeticError OverflowError RuntimeError NotImplementedError
AttributeError StopIteration NotImplemented""".split()

METHODS = """append clear copy count endswith extend find get index insert isalnum isalpha isdigit islower isspace
isupper items join keys ljust lower lstrip partition pop remove replace reverse rfind rjust rpartition rsplit rstrip
setdefault split splitlines startswith strip update upper values zfill bit_length add discard title capitalize
swapcase casefold center removeprefix removesuffix isascii isdecimal isnumeric isprintable""".split()

DUNDERS = ["__init__", "__eq__", "__repr__", "__str__", "__len__"]

BARRED = re.compile(
    r"\b(type|typing|typing_extensions|enum|Enum|IntEnum|StrEnum|Flag|IntFlag|Generic|Protocol|ABC|ABCMeta"
    r"|namedtuple|NamedTuple|TypedDict|TYPE_CHECKING|abstractmethod)\b|dataclass|overload|contextmanager"
)

TAKE_LISTS = ["any", "all", "min", "max", "sum", "sorted"]

TAKE_AT_ONCE = TAKE_LISTS + ["list", "tuple", "dict", "enumerate", "zip", "join"]


def sources():
    told = {}
    for name in sorted(os.listdir(PACKAGE)):
        if name.endswith(".py"):
            with open(os.path.join(PACKAGE, name), encoding="utf-8", newline="") as held:
                told[name[:-3]] = held.read()
    return told


def bound_names(tree):
    """All names that a file gives a meaning."""
    names = set()
    for node in ast.walk(tree):
        if isinstance(node, (ast.FunctionDef, ast.ClassDef)):
            names.add(node.name)
        elif isinstance(node, ast.arg):
            names.add(node.arg)
        elif isinstance(node, ast.Name) and isinstance(node.ctx, ast.Store):
            names.add(node.id)
        elif isinstance(node, ast.ImportFrom):
            names.update(alias.asname or alias.name for alias in node.names)
        elif isinstance(node, ast.ExceptHandler) and node.name:
            names.add(node.name)
    return names


def text_faults(text):
    lines = text.split("\n")
    if len(lines) > 401:
        yield "L10 file"
    if any(len(line) > 120 for line in lines):
        yield "L10 line"
    if re.search(r"[^ -~\n]", text):
        yield "L14"
    if BARRED.search(text):
        yield "L17"


def import_faults(tree, files):
    for node in tree.body:
        if isinstance(node, ast.ImportFrom):
            parts = (node.module or "").split(".")
            if node.level or len(parts) != 2 or parts[0] != "swapslip" or parts[1] not in files:
                yield "L2"
            elif not {alias.name for alias in node.names} <= top_names(ast.parse(files[parts[1]])):
                yield "L16"


def top_names(tree):
    names = {node.name for node in tree.body if isinstance(node, (ast.FunctionDef, ast.ClassDef))}
    return names | {target.id for node in tree.body if isinstance(node, ast.Assign) for target in node.targets}


def name_faults(tree):
    bound = bound_names(tree)
    for name in bound:
        if not re.fullmatch(r"[A-Za-z][A-Za-z0-9_]*", name) and name not in DUNDERS:
            yield "L12"
        if name in BUILTINS or name in ("hash", "id", "map", "round", "filter", "input", "open", "vars", "dir"):
            yield "L15"
    for node in ast.walk(tree):
        if isinstance(node, ast.Name) and node.id not in bound and node.id not in BUILTINS:
            yield "L8"


def body_faults(body):
    for at, node in enumerate(body):
        docstring = at == 0 and isinstance(node, ast.Expr) and isinstance(node.value, ast.Constant)
        if not docstring and not isinstance(node, (ast.ImportFrom, ast.FunctionDef, ast.ClassDef, ast.Assign)):
            yield "L3"


def node_faults(node):
    if isinstance(node, ast.FunctionDef) and node.end_lineno - node.lineno >= 40:
        yield "L10 function"
    if isinstance(node, (ast.Global, ast.AsyncFunctionDef, ast.Import, ast.Await)):
        yield "L6"
    if isinstance(node, ast.Compare):
        for sign, side in zip(node.ops, node.comparators):
            if isinstance(sign, (ast.Is, ast.IsNot)) and not (
                isinstance(side, ast.Constant) and side.value in (None, True, False)
            ):
                yield "L20"
    if isinstance(node, ast.BinOp) and isinstance(node.op, ast.Div) or (
        isinstance(node, ast.Constant) and isinstance(node.value, float)
    ):
        yield "L7"
    if isinstance(node, ast.Constant) and isinstance(node.value, str) and "%" in node.value:
        yield "L27"
    if isinstance(node, ast.Raise) and node.exc and not isinstance(node.exc, ast.Call):
        yield "L19"
    if isinstance(node, ast.ExceptHandler) and node.type is None:
        yield "L6"


def call_faults(node, methods):
    if not isinstance(node, ast.Call):
        return
    if isinstance(node.func, ast.Attribute) and node.func.attr not in methods:
        yield "L25"
    # Classes with an __eq__ are part of the document, and L7 asks for lists beside these.
    if isinstance(node.func, ast.Name) and node.func.id in TAKE_LISTS:
        if any(isinstance(thing, ast.GeneratorExp) for thing in node.args):
            yield "L7"


def parents(tree):
    return {id(child): node for node in ast.walk(tree) for child in ast.iter_child_nodes(node)}


def called_name(node):
    """The name of the function or method that is called, None for all other nodes."""
    if not isinstance(node, ast.Call):
        return None
    return node.func.id if isinstance(node.func, ast.Name) else getattr(node.func, "attr", None)


def at_once_faults(tree):
    """L23: what is iterated on the spot stands where that is done."""
    above = parents(tree)
    for node in ast.walk(tree):
        if called_name(node) in ("zip", "enumerate", "reversed", "range", "items", "keys", "values"):
            parent = above[id(node)]
            loops = isinstance(parent, (ast.For, ast.comprehension)) and parent.iter is node
            tested = isinstance(parent, ast.Compare) and called_name(node) in ("range", "keys")
            if not loops and not tested and called_name(parent) not in TAKE_AT_ONCE:
                yield "L23"


def set_faults(tree):
    """L24, as strict as this package needs it: a set stands in `len(..)`, in `sorted(..)` or behind `in`."""
    above = parents(tree)
    for node in ast.walk(tree):
        if called_name(node) == "set" or isinstance(node, (ast.Set, ast.SetComp)):
            if called_name(above[id(node)]) not in ("len", "sorted") and not isinstance(above[id(node)], ast.Compare):
                yield "L24"


def tables(trees):
    """The names of all lists and dicts at module level."""
    return {
        target.id for tree in trees for node in tree.body
        if isinstance(node, ast.Assign) and isinstance(node.value, (ast.List, ast.Dict)) for target in node.targets
    }


def table_faults(tree, names):
    """L15: a list or dict at module level is read, or passed on as a copy."""
    above = parents(tree)
    for node in ast.walk(tree):
        if isinstance(node, ast.Name) and node.id in names and isinstance(node.ctx, ast.Load):
            parent = above[id(node)]
            read = isinstance(parent, (ast.Compare, ast.For, ast.comprehension, ast.Attribute))
            read = read or (isinstance(parent, ast.Subscript) and isinstance(parent.ctx, ast.Load))
            if not read and called_name(parent) not in ("len", "list", "dict", "sorted", "tuple"):
                yield "L15"


def shadow_faults(tree):
    """L15: what a function names is no class and no import of its file."""
    taken = {node.name for node in tree.body if isinstance(node, ast.ClassDef)}
    taken |= {alias.name for node in tree.body if isinstance(node, ast.ImportFrom) for alias in node.names}
    for node in ast.walk(tree):
        if isinstance(node, (ast.FunctionDef, ast.Lambda)):
            if (bound_names(node) - {getattr(node, "name", None)}) & taken:
                yield "L15"


def ring_faults(trees):
    """L16: no two files import from each other, directly or through others."""
    needs = {
        name: {node.module.split(".")[-1] for node in tree.body if isinstance(node, ast.ImportFrom)}
        for name, tree in trees.items()
    }
    while any(not need for need in needs.values()):
        free = [name for name in needs if not needs[name]]
        needs = {name: needs[name] - set(free) for name in needs if name not in free}
    return [(name, "L16") for name in needs]


def own_methods(trees):
    return {
        item.name
        for tree in trees
        for node in ast.walk(tree)
        if isinstance(node, ast.ClassDef)
        for item in node.body
        if isinstance(item, ast.FunctionDef)
    }


def own_attributes(trees):
    return {
        node.attr
        for tree in trees
        for node in ast.walk(tree)
        if isinstance(node, ast.Attribute) and isinstance(node.ctx, ast.Store)
    }


def read_attributes(tree):
    """All attributes that are read, but not those that are called at once."""
    called = {id(node.func) for node in ast.walk(tree) if isinstance(node, ast.Call)}
    return {
        node.attr
        for node in ast.walk(tree)
        if isinstance(node, ast.Attribute) and isinstance(node.ctx, ast.Load) and id(node) not in called
    }


def builtin_names():
    """The names that builtin values have; beside each sort of own name stand those that it may have in spite of it."""
    names = {name for kind in (str, int, list, dict, set, bytes) for name in dir(kind) if not name.startswith("_")}
    return names - set(METHODS[:METHODS.index("title")]), names - set("count index title find get join lower upper "
                                                                      "split strip copy add".split())


def name_sort_faults(own, attributes):
    bad_methods, bad_attributes = builtin_names()
    if own & attributes:
        yield "L18"
    if own & bad_methods or attributes & (bad_attributes | {"args"}):
        yield "L26"


def faults(files):
    """Pairs of a file and the rule that it breaks."""
    trees = {name: ast.parse(text) for name, text in files.items()}
    own, attributes = own_methods(trees.values()), own_attributes(trees.values())
    methods = own | set(METHODS)
    told = [("package", rule) for rule in name_sort_faults(own, attributes)]
    told += [(name, "L18") for name, tree in trees.items() if read_attributes(tree) - attributes]
    told += ring_faults(trees)
    for name, tree in trees.items():
        rules = list(text_faults(files[name])) + list(import_faults(tree, files))
        rules += list(name_faults(tree)) + list(body_faults(tree.body)) + list(shadow_faults(tree))
        rules += list(at_once_faults(tree)) + list(set_faults(tree)) + list(table_faults(tree, tables(trees.values())))
        for node in ast.walk(tree):
            rules += list(node_faults(node)) + list(call_faults(node, methods))
        told += [(name, rule) for rule in rules]
    return told


class TheLanguage(unittest.TestCase):
    def test_the_folder_has_only_source_files(self):
        names = [name for name in os.listdir(PACKAGE) if name != "__pycache__"]
        self.assertEqual([name for name in names if not re.fullmatch(r"[a-z_][a-z0-9_]*\.py", name)], [])
        self.assertIn("__init__.py", names)

    def test_the_package_breaks_no_rule(self):
        self.assertEqual(faults(sources()), [])

    def test_python_warns_of_no_line(self):
        with warnings.catch_warnings():
            warnings.simplefilter("error")
            for name, text in sources().items():
                compile(text, name, "exec")

    def test_the_look_sees_what_it_looks_for(self):
        broken = {
            "import os\n": "L6",
            "from os import path\n": "L2",
            "from swapslip.probe import gone\n": "L16",
            "print = 3\nx = hash\n": "L8",
            "def f(min):\n    return min\n": "L15",
            "class A:\n    pass\n\n\ndef f(A):\n    return A\n": "L15",
            "X = {1: 2}\n\n\ndef f():\n    return X\n": "L15",
            "X = [1]\n\n\ndef f(g):\n    return g(X)\n": "L15",
            "X = [1]\n\n\ndef f():\n    X[0] = 2\n    return 1\n": "L15",
            "from swapslip.probe import f\n\n\ndef f():\n    return 1\n": "L16",
            "def f(x):\n    return zip(x, x)\n": "L23",
            "def f(x):\n    y = x.items()\n    return 1\n": "L23",
            "def f(x):\n    return len(set(x)) + [y for y in set(x)]\n": "L24",
            "def f(_x):\n    return 1\n": "L12",
            "def f(x):\n    return x is 3\n": "L20",
            "def f(x):\n    return x / 2\n": "L7",
            "def f(x):\n    return any(y for y in x)\n": "L7",
            "def f(x):\n    return x.format(1)\n": "L25",
            "X = '%'\n": "L27",
            "f = 1\nf\n": "L3",
            "X = 'a type of it'\n": "L17",
            "X = '\u00e9'\n": "L14",
            "def f(x):\n    raise x\n": "L19",
            "class A:\n    def f(self):\n        self.f = 1\n": "L18",
            "def f(x):\n    return x.gone\n": "L18",
            "class A:\n    def __init__(self):\n        self.items = 1\n": "L26",
            "class A:\n    def decode(self):\n        return 1\n": "L26",
            "def f(x):\n" + "    x += 1\n" * 40: "L10 function",
            "X = 1\n" * 401: "L10 file",
            "X = " + "1" * 120 + "\n": "L10 line",
        }
        for text, rule in broken.items():
            self.assertIn(rule, [told for name, told in faults({"probe": text})], text[:60])
