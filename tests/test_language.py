"""The package's files keep to the small part of Python that ../shared/LANGUAGE.md tells.

Not every rule can be seen from here; those that can be seen plainly are, by their numbers.
"""

import ast
import builtins
import pathlib
import re
import unittest

PACKAGE = pathlib.Path(__file__).resolve().parent.parent / "nailhang"

BUILTINS = set(
    "len range enumerate zip min max sum abs sorted reversed int str bool list tuple dict set frozenset isinstance "
    "ord repr any all divmod Exception ValueError TypeError KeyError IndexError LookupError ZeroDivisionError "
    "ArithmeticError OverflowError RuntimeError NotImplementedError AttributeError StopIteration object".split()
)

METHODS = set(
    "append clear copy count endswith extend find get index insert isalnum isalpha isdigit islower isspace isupper "
    "items join keys ljust lower lstrip partition pop remove replace reverse rfind rjust rpartition rsplit rstrip "
    "setdefault split splitlines startswith strip update upper values zfill bit_length".split()
)

DOUBLE_UNDERSCORE = {"__init__", "__eq__", "__repr__", "__str__", "__len__"}

WORDS = (
    r"\b(type|typing|typing_extensions|enum|Enum|IntEnum|StrEnum|Flag|IntFlag|Generic|Protocol|ABC|ABCMeta|"
    r"namedtuple|NamedTuple|TypedDict|TYPE_CHECKING|abstractmethod)\b|dataclass|overload|contextmanager"
)

UNUSED = set("register mro elements open input version_info with_traceback add_note".split())

NODES = (
    ast.Module, ast.FunctionDef, ast.ClassDef, ast.arguments, ast.arg, ast.Return, ast.Assign, ast.AugAssign, ast.For,
    ast.While, ast.If, ast.Raise, ast.Try, ast.ExceptHandler, ast.ImportFrom, ast.alias, ast.Expr, ast.Pass, ast.Break,
    ast.Continue, ast.BoolOp, ast.BinOp, ast.UnaryOp, ast.Lambda, ast.IfExp, ast.Dict, ast.Set, ast.ListComp,
    ast.comprehension, ast.Compare, ast.Call, ast.keyword, ast.FormattedValue, ast.JoinedStr, ast.Constant,
    ast.Attribute, ast.Subscript, ast.Slice, ast.Name, ast.List, ast.Tuple, ast.expr_context, ast.boolop,
    ast.operator, ast.unaryop, ast.cmpop,
)

NOT_NODES = (ast.Div, ast.MatMult, ast.Starred)

OWN_VALUES = set("count index title find get join lower upper split strip copy add".split())

WALKS = {"zip", "enumerate", "reversed", "range"}
WALK_METHODS = {"items", "keys", "values"}
WALKERS = {"list", "tuple", "dict", "sorted", "sum", "any", "all", "enumerate", "zip", "min", "max"}
SET_HOLDERS = {"sorted", "len"}


def package_files():
    return sorted(path for path in PACKAGE.rglob("*") if "__pycache__" not in path.parts and path.is_file())


def bound_names(tree):
    """All names that a file gives a meaning to itself, wherever it does so."""
    names = set()
    for node in ast.walk(tree):
        if isinstance(node, (ast.FunctionDef, ast.ClassDef)):
            names.add(node.name)
        elif isinstance(node, ast.arg):
            names.add(node.arg)
        elif isinstance(node, ast.Name) and isinstance(node.ctx, ast.Store):
            names.add(node.id)
        elif isinstance(node, ast.alias):
            names.add(node.name)
        elif isinstance(node, ast.ExceptHandler) and node.name:
            names.add(node.name)
    return names


def text_faults(source):
    faults = []
    lines = source.split("\n")
    if len(lines) > 401:
        faults.append("L10 file too long")
    for number, line in enumerate(lines, start=1):
        if len(line) > 120:
            faults.append(f"L10 line {number} too long")
        if any(not " " <= sign <= "~" for sign in line):
            faults.append(f"L14 sign in line {number}")
        if re.search(WORDS, line):
            faults.append(f"L17 word in line {number}")
    return faults


def docstrings(tree):
    kept = []
    for node in ast.walk(tree):
        if isinstance(node, (ast.Module, ast.FunctionDef, ast.ClassDef)) and ast.get_docstring(node) is not None:
            kept.append(node.body[0])
    return kept


def statement_faults(node, tree):
    if isinstance(node, ast.Expr) and not isinstance(node.value, ast.Call) and node not in docstrings(tree):
        return "L6 a value by itself"
    if isinstance(node, ast.Assign) and len(node.targets) != 1:
        return "L6 several targets"
    if isinstance(node, (ast.For, ast.While)) and node.orelse:
        return "L6 else behind a loop"
    if isinstance(node, ast.Try) and node.finalbody:
        return "L6 finally"
    if isinstance(node, ast.ExceptHandler) and node.type is None:
        return "L6 except without a name"
    if isinstance(node, ast.FunctionDef):
        return function_faults(node)
    if isinstance(node, ast.ClassDef):
        return class_faults(node, tree)
    if isinstance(node, ast.ImportFrom):
        return import_faults(node, tree)
    return None


def function_faults(node):
    given = node.args
    if node.decorator_list or given.vararg or given.kwarg or given.kwonlyargs or given.posonlyargs:
        return "L4 parameters or decorator"
    if node.end_lineno - node.lineno + 1 > 40:
        return "L10 function too long"
    if node.returns or any(arg.annotation for arg in given.args):
        return "L21 annotation"
    return None


def class_faults(node, tree):
    if node not in tree.body or node.decorator_list or node.keywords or len(node.bases) > 1:
        return "L5 class"
    if any(not isinstance(part, (ast.FunctionDef, ast.Pass, ast.Expr)) for part in node.body):
        return "L5 value in a class body"
    return None


def import_faults(node, tree):
    if node not in tree.body or node.level != 0 or not node.module.startswith("nailhang."):
        return "L2 import"
    path = PACKAGE / (node.module.split(".", 1)[1].replace(".", "/") + ".py")
    if not path.is_file() or any(alias.name == "*" or alias.asname for alias in node.names):
        return "L16 import"
    defined = [part.name for part in ast.parse(path.read_text()).body if hasattr(part, "name")]
    values = [part.targets[0].id for part in ast.parse(path.read_text()).body if isinstance(part, ast.Assign)]
    if any(alias.name not in defined + values for alias in node.names):
        return "L16 not from the file that defines it"
    return None


def value_faults(node, names, own_methods):
    if isinstance(node, ast.Constant) and isinstance(node.value, (float, complex, bytes)):
        return "L7 value"
    if isinstance(node, ast.Constant) and isinstance(node.value, str) and "%" in node.value:
        return "L27 percent sign"
    if isinstance(node, ast.BinOp) and isinstance(node.op, ast.Pow) and not isinstance(node.right, ast.Constant):
        return "L27 exponent"
    if isinstance(node, ast.ListComp) and (len(node.generators) != 1 or len(node.generators[0].ifs) > 1):
        return "L7 comprehension"
    if isinstance(node, ast.Compare) and any(isinstance(op, (ast.Is, ast.IsNot)) for op in node.ops):
        beside = node.comparators[-1]
        if not (isinstance(beside, ast.Constant) and beside.value in (None, True, False)):
            return "L20 is"
    if isinstance(node, ast.Name) and (node.id not in names | BUILTINS or node.id in UNUSED):
        return f"L8 name {node.id}"
    if isinstance(node, ast.Call) and isinstance(node.func, ast.Attribute):
        if node.func.attr not in METHODS | own_methods:
            return f"L25 method {node.func.attr}"
    return None


def called_name(node):
    return node.func.id if isinstance(node, ast.Call) and isinstance(node.func, ast.Name) else None


def is_walk(node):
    if isinstance(node, ast.Call) and isinstance(node.func, ast.Attribute):
        return node.func.attr in WALK_METHODS
    return called_name(node) in WALKS


def walk_faults(tree):
    """What is made to be walked (L23) or is a set (L24) stands only where the rules let it stand."""
    walked = []
    held = []
    for node in ast.walk(tree):
        if isinstance(node, (ast.For, ast.comprehension)):
            walked.append(node.iter)
        elif isinstance(node, ast.Call) and called_name(node) in WALKERS:
            walked += node.args if called_name(node) == "zip" else node.args[:1]
        if isinstance(node, ast.Call) and called_name(node) in SET_HOLDERS and not node.keywords:
            held += ast.walk(node.args[0])
        elif isinstance(node, ast.Compare):
            held += [node.left] + node.comparators
    faults = []
    for node in ast.walk(tree):
        if is_walk(node) and node not in walked:
            faults.append(f"L23 kept, line {node.lineno}")
        if called_name(node) in ("set", "frozenset") and node not in held:
            faults.append(f"L24 a set kept, line {node.lineno}")
    return faults


def local_names(function):
    names = [node for node in ast.walk(function) if isinstance(node, ast.Name)]
    stored = [node.id for node in names if isinstance(node.ctx, ast.Store)]
    return [arg.arg for arg in function.args.args] + stored


def local_faults(tree):
    """L15: no parameter and no local is called like an import, a class or a name of Python's own."""
    taken = set(dir(builtins))
    for node in tree.body:
        if isinstance(node, ast.ImportFrom):
            taken |= {alias.name for alias in node.names}
        elif isinstance(node, ast.ClassDef):
            taken.add(node.name)
    functions = [node for node in ast.walk(tree) if isinstance(node, ast.FunctionDef)]
    return [f"L15 {name} in {node.name}" for node in functions for name in local_names(node) if name in taken]


def own_methods_of(trees):
    classes = [node for tree in trees for node in tree.body if isinstance(node, ast.ClassDef)]
    return {part.name for node in classes for part in node.body if isinstance(part, ast.FunctionDef)}


def own_values_of(trees):
    stored = [node for tree in trees for node in ast.walk(tree) if isinstance(node, ast.Attribute)]
    return {node.attr for node in stored if isinstance(node.ctx, ast.Store)}


def own_name_faults(trees):
    """L18 and L26: no name is both a method and a value, and none is like one of Python's own values'."""
    methods, values = own_methods_of(trees) - DOUBLE_UNDERSCORE, own_values_of(trees)
    python = {name for kind in (str, int, list, dict, set, bytes, tuple) for name in dir(kind)}
    faults = [f"L18 {name} is a method and a value" for name in sorted(methods & values)]
    return faults + [f"L26 {name}" for name in sorted((methods - METHODS - {"add", "discard"}) & python)] + [
        f"L26 {name}" for name in sorted((values - OWN_VALUES) & python)
    ]


def tree_faults(tree, own_methods):
    faults = []
    names = bound_names(tree)
    for name in names:
        plain = re.fullmatch(r"[A-Za-z][A-Za-z0-9_]*", name) or name in DOUBLE_UNDERSCORE
        if not plain or name in BUILTINS | UNUSED:
            faults.append(f"L12 or L15 name {name}")
    for node in ast.walk(tree):
        if not isinstance(node, NODES) or isinstance(node, NOT_NODES):
            faults.append(f"L6 or L7 {node.__class__.__name__}")
        for fault in (statement_faults(node, tree), value_faults(node, names, own_methods)):
            if fault:
                faults.append(f"{fault}, line {getattr(node, 'lineno', 0)}")
    return faults


def top_faults(tree):
    allowed = (ast.ImportFrom, ast.FunctionDef, ast.ClassDef, ast.Assign)
    rest = tree.body[1:] if tree.body and tree.body[0] in docstrings(tree) else tree.body
    return [f"L3 line {node.lineno}" for node in rest if not isinstance(node, allowed)]


class LanguageTest(unittest.TestCase):
    def test_the_package_holds_plainly_named_source_files_alone(self):
        names = [path.name for path in package_files()]
        self.assertIn("__init__.py", names)
        for name in names:
            self.assertRegex(name, r"^([a-z][a-z0-9_]*|__init__|__main__)\.py$")
            self.assertNotRegex(name, r"^(test.*|site|conftest|sitecustomize|usercustomize)\.py$")

    def test_the_files_keep_to_the_rules(self):
        trees = {path: ast.parse(path.read_text(encoding="utf-8")) for path in package_files()}
        own_methods = own_methods_of(trees.values())
        for path, tree in trees.items():
            with self.subTest(file=path.name):
                self.assertEqual(text_faults(path.read_text(encoding="utf-8")), [])
                self.assertEqual(tree_faults(tree, own_methods), [])
                self.assertEqual(top_faults(tree), [])
                self.assertEqual(walk_faults(tree), [])
                self.assertEqual(local_faults(tree), [])

    def test_methods_and_values_have_names_of_their_own(self):
        self.assertEqual(own_name_faults([ast.parse(path.read_text()) for path in package_files()]), [])
        for source in ("class A:\n    def f(self):\n        self.f = 1", "class A:\n    def sort(self):\n        pass",
                       "class A:\n    def f(self):\n        self.items = 1"):
            self.assertNotEqual(own_name_faults([ast.parse(source)]), [])

    def test_faults_are_seen(self):
        for source in (
            "x = 1 / 2", "x = 1.5", "def f(*a):\n    pass", "import os", "from os import path", "x = y = 1",
            "x = {k for k in [1]}", "def f():\n    yield 1", "x = open", "def f(xs):\n    xs.sort()",
            "def f(x, y):\n    return x is y", "for k in [1]:\n    pass\nelse:\n    pass", "class A:\n    x = 1",
            "def f(len):\n    pass", "def f():\n    _ = 1", "def f(x: int):\n    pass", "x = '50%'",
            "def f(n):\n    return 2 ** n", "def f(d):\n    return d.items()", "def f(n):\n    xs = range(n)",
            "def f(n):\n    for k in reversed(range(n)):\n        pass", "def f(xs):\n    ys = set(xs)",
            "def f(xs):\n    for x in set(xs):\n        pass", "def f(hash):\n    pass", "def f():\n    round = 1",
            "from nailhang.cords import joined\ndef f():\n    joined = 1",
        ):
            with self.subTest(source=source):
                tree = ast.parse(source)
                faults = tree_faults(tree, set()) + top_faults(tree) + walk_faults(tree) + local_faults(tree)
                self.assertNotEqual(faults, [])
        for source in ("# a type", "x = '\u00e9'", "\tpass", "x" * 121, "\n" * 401, "# overloaded"):
            with self.subTest(source=source):
                self.assertNotEqual(text_faults(source), [])


if __name__ == "__main__":
    unittest.main()
