"""The package's files keep to the part of Python that the program is written in.

These checks see what can be seen file by file; the numbers (L1 and on) are those of that part's rules.
"""

import ast
import builtins
import pathlib
import re
import unittest

PACKAGE = pathlib.Path(__file__).resolve().parent.parent / "tellroads"

OWN_NAMES = set("""
    len range enumerate zip min max sum abs sorted reversed int str bool list tuple dict set frozenset isinstance
    ord repr any all divmod Exception ValueError TypeError KeyError IndexError LookupError ZeroDivisionError
    ArithmeticError OverflowError RuntimeError NotImplementedError AttributeError StopIteration
""".split())
OWN_METHODS = set("""
    append clear copy count endswith extend find get index insert isalnum isalpha isdigit islower isspace isupper
    items join keys ljust lower lstrip partition pop remove replace reverse rfind rjust rpartition rsplit rstrip
    setdefault split splitlines startswith strip update upper values zfill bit_length
""".split())
DOUBLE = {"__init__", "__eq__", "__repr__", "__str__", "__len__"}
NODES = set("""
    Module FunctionDef ClassDef Return Assign AugAssign For While If Raise Try ExceptHandler ImportFrom alias Expr
    Pass Break Continue BoolOp BinOp UnaryOp Lambda IfExp Dict ListComp comprehension Compare Call FormattedValue
    JoinedStr Constant Attribute Subscript Name List Tuple Slice Set Load Store And Or Add Sub Mult Mod Pow
    FloorDiv LShift RShift BitOr BitXor BitAnd Invert Not UAdd USub Eq NotEq Lt LtE Gt GtE Is IsNot In NotIn
    arguments arg keyword
""".split())
NOWHERE = re.compile(
    r"\b(type|typing|typing_extensions|enum|Enum|IntEnum|StrEnum|Flag|IntFlag|Generic|Protocol|ABC|ABCMeta"
    r"|namedtuple|NamedTuple|TypedDict|TYPE_CHECKING|abstractmethod)\b|dataclass|overload|contextmanager")
PLAIN_NAME = re.compile(r"[A-Za-z][A-Za-z0-9_]*\Z")
UNUSED = set("register mro elements open input version_info with_traceback add_note format format_map".split())
IS_BESIDE = ("None", "True", "False")
NO_VALUES = set("""
    items keys values pop update append clear extend insert remove reverse setdefault sort args encode format
""".split())
FREE_VALUES = set("count index title find get join lower upper split strip copy add".split())


def sources():
    return {path.stem: path.read_text(encoding="utf-8") for path in sorted(PACKAGE.glob("*.py"))}


def walk(tree, *kinds):
    return [node for node in ast.walk(tree) if isinstance(node, kinds)]


def sign_faults(text):
    faults = []
    for row, line in enumerate(text.split("\n"), start=1):
        if len(line) > 120:
            faults.append(f"L10 a long line, {row}")
        if not all(" " <= sign <= "~" for sign in line):
            faults.append(f"L14 a sign, {row}")
        if NOWHERE.search(line):
            faults.append(f"L17 a word, {row}")
    if text.count("\n") > 400:
        faults.append("L10 a long file")
    return faults


def import_faults(tree):
    faults = []
    for node in walk(tree, ast.ImportFrom):
        if node not in tree.body or node.level or not (node.module or "").startswith("tellroads."):
            faults.append(f"L2 an import, {node.lineno}")
        if any(one.name == "*" or one.asname for one in node.names):
            faults.append(f"L2 an import, {node.lineno}")
    return faults


def top_faults(tree):
    faults = []
    for place, node in enumerate(tree.body):
        docstring = place == 0 and isinstance(node, ast.Expr) and isinstance(node.value, ast.Constant)
        if docstring or isinstance(node, (ast.ImportFrom, ast.FunctionDef, ast.ClassDef)):
            continue
        plain = isinstance(node, ast.Assign) and not walk(node.value, ast.Call, ast.BinOp, ast.ListComp, ast.Set)
        if not plain:
            faults.append(f"L3 the top, {node.lineno}")
    return faults


def node_faults(tree):
    faults = []
    for node in ast.walk(tree):
        row = getattr(node, "lineno", 0)
        if type(node).__name__ not in NODES:
            faults.append(f"L6 L7 {type(node).__name__}, {row}")
        if isinstance(node, ast.Expr) and not isinstance(node.value, ast.Call) and node is not tree.body[0]:
            faults.append(f"L6 a value by itself, {row}")
        several = isinstance(node, ast.Assign) and (len(node.targets) > 1 or isinstance(node.targets[0], ast.Tuple))
        if several:
            faults.append(f"L6 targets, {row}")
        if isinstance(node, (ast.For, ast.While)) and node.orelse:
            faults.append(f"L6 else behind a loop, {row}")
        if isinstance(node, ast.ListComp) and (len(node.generators) > 1 or len(node.generators[0].ifs) > 1):
            faults.append(f"L7 a comprehension, {row}")
        if isinstance(node, ast.Constant) and isinstance(node.value, (float, bytes, complex)):
            faults.append(f"L7 a value, {row}")
        if isinstance(node, ast.Constant) and isinstance(node.value, str) and "%" in node.value:
            faults.append(f"L27 a sign, {row}")
        if isinstance(node, ast.FormattedValue) and (not isinstance(node.value, ast.Name) or node.format_spec):
            faults.append(f"L7 braces, {row}")
        if isinstance(node, ast.Compare) and any(isinstance(sign, (ast.Is, ast.IsNot)) for sign in node.ops):
            if not all(isinstance(one, ast.Constant) and repr(one.value) in IS_BESIDE for one in node.comparators):
                faults.append(f"L20 is, {row}")
    return faults


def def_faults(tree):
    faults = []
    for node in walk(tree, ast.FunctionDef):
        if node.end_lineno - node.lineno >= 40:
            faults.append(f"L10 a long function, {node.lineno}")
        if node.decorator_list or node.args.vararg or node.args.kwarg or node.args.kwonlyargs or node.args.posonlyargs:
            faults.append(f"L4 a function, {node.lineno}")
        if node.returns or any(one.annotation for one in node.args.args):
            faults.append(f"L21 an annotation, {node.lineno}")
    for node in walk(tree, ast.ClassDef):
        if node not in tree.body or node.decorator_list or node.keywords or len(node.bases) > 1:
            faults.append(f"L5 a class, {node.lineno}")
        if not all(isinstance(one, (ast.FunctionDef, ast.Pass)) for one in node.body):
            faults.append(f"L5 a class body, {node.lineno}")
    return faults


def bound_names(tree):
    for node in ast.walk(tree):
        if isinstance(node, ast.Name) and isinstance(node.ctx, ast.Store):
            yield node.id, node.lineno
        elif isinstance(node, ast.arg):
            yield node.arg, node.lineno
        elif isinstance(node, ast.ExceptHandler) and node.name:
            yield node.name, node.lineno


def name_faults(tree):
    faults = []
    top = [node.name for node in tree.body if isinstance(node, ast.ClassDef)]
    top.extend(one.name for node in walk(tree, ast.ImportFrom) for one in node.names)
    for name, row in bound_names(tree):
        if not PLAIN_NAME.match(name):
            faults.append(f"L12 {name}, {row}")
        if hasattr(builtins, name) or name in top or name in UNUSED:
            faults.append(f"L15 L17 {name}, {row}")
    for node in walk(tree, ast.FunctionDef, ast.ClassDef):
        if node.name not in DOUBLE and (not PLAIN_NAME.match(node.name) or node.name in UNUSED):
            faults.append(f"L12 L17 {node.name}, {node.lineno}")
    for node in walk(tree, ast.Name):
        if hasattr(builtins, node.id) and node.id not in OWN_NAMES:
            faults.append(f"L8 {node.id}, {node.lineno}")
    for node in walk(tree, ast.Attribute):
        if node.attr in UNUSED or (node.attr not in DOUBLE and not PLAIN_NAME.match(node.attr)):
            faults.append(f"L12 L17 {node.attr}, {node.lineno}")
    return faults


def methods_in(trees):
    return {one.name for tree in trees for node in walk(tree, ast.ClassDef) for one in walk(node, ast.FunctionDef)}


def values_in(trees):
    return {node.attr for tree in trees for node in walk(tree, ast.Attribute) if isinstance(node.ctx, ast.Store)}


def names_at_top(tree):
    names = [node.name for node in tree.body if isinstance(node, (ast.FunctionDef, ast.ClassDef))]
    return names + [node.targets[0].id for node in tree.body if isinstance(node, ast.Assign)]


def method_faults(tree, own):
    called = [node.func for node in walk(tree, ast.Call) if isinstance(node.func, ast.Attribute)]
    return [f"L25 {node.attr}, {node.lineno}" for node in called if node.attr not in OWN_METHODS | own]


def faults_of(text):
    tree = ast.parse(text)
    faults = sign_faults(text) + import_faults(tree) + top_faults(tree) + node_faults(tree) + def_faults(tree)
    return faults + name_faults(tree) + method_faults(tree, methods_in([tree]))


class Language(unittest.TestCase):
    def test_files(self):
        for path in PACKAGE.iterdir():
            if path.name != "__pycache__":
                self.assertRegex(path.name, r"\A([a-z][a-z0-9_]*|__init__)\.py\Z")
        self.assertTrue((PACKAGE / "__init__.py").is_file())

    def test_each_file(self):
        trees = {name: ast.parse(text) for name, text in sources().items()}
        own = methods_in(trees.values())
        for name, text in sources().items():
            with self.subTest(name):
                faults = [one for one in faults_of(text) if not one.startswith("L25")]
                self.assertEqual(faults + method_faults(trees[name], own), [])

    def test_no_name_is_a_method_and_a_value(self):
        trees = [ast.parse(text) for text in sources().values()]
        self.assertEqual(methods_in(trees) & values_in(trees), set())
        self.assertEqual(NO_VALUES & values_in(trees), set())

    def test_methods_and_values_are_not_called_like_those_of_pythons_own(self):
        trees = [ast.parse(text) for text in sources().values()]
        taken = {name for kind in (str, int, list, tuple, dict, set, bytes) for name in dir(kind)}
        self.assertEqual(methods_in(trees) & taken - OWN_METHODS - DOUBLE - {"add", "discard"}, set())
        self.assertEqual(values_in(trees) & taken - FREE_VALUES, set())

    def test_each_name_once(self):
        for name, text in sources().items():
            tree = ast.parse(text)
            tops = names_at_top(tree) + [one.name for node in walk(tree, ast.ImportFrom) for one in node.names]
            self.assertEqual(sorted(tops), sorted(set(tops)), name)
            for node in walk(tree, ast.ClassDef):
                methods = [one.name for one in walk(node, ast.FunctionDef)]
                self.assertEqual(sorted(methods), sorted(set(methods)), node.name)

    def test_no_two_files_draw_from_one_another(self):
        draws = {}
        for name, text in sources().items():
            draws[name] = {node.module.split(".")[1] for node in walk(ast.parse(text), ast.ImportFrom)}
        while draws:
            free = [name for name in draws if not draws[name] & set(draws)]
            self.assertTrue(free, draws)
            for name in free:
                draws.pop(name)

    def test_names_are_drawn_from_the_file_that_defines_them(self):
        defined = {}
        for name, text in sources().items():
            defined[name] = set(names_at_top(ast.parse(text)))
        for name, text in sources().items():
            for node in walk(ast.parse(text), ast.ImportFrom):
                for one in node.names:
                    self.assertIn(one.name, defined[node.module.split(".")[1]], name)

    def test_code_outside_the_rules_is_seen(self):
        for text in (
            "import os\n", "from os import path\n", "from tellroads.errors import *\n", "x = len([])\n",
            "def f(*a):\n    return a\n", "def f():\n    a, b = 1, 2\n", "def f():\n    a = b = 1\n",
            "def f(x):\n    return x / 2\n", "def f(x):\n    return 0.5\n", "def f(x):\n    assert x\n",
            "def f(x):\n    return {a: a for a in x}\n", "def f(x):\n    return all(a for a in x)\n",
            "def f(x):\n    return x is 1\n", "def f(x):\n    x.sort()\n", "def f(x):\n    return chr(x)\n",
            "def f(id):\n    return id\n", "def f(_x):\n    return 1\n", "# a type\n", "# \xe9\n",
            "def f(x: int):\n    pass\n",
            "class C:\n    x = 1\n", "def f():\n    'words'\n    return 1\n", "def f(x):\n\treturn x\n",
            "def f(x):\n    return f'{x + 1}'\n", "def f(x):\n    return '%'\n", "# " + "x" * 120 + "\n",
            "def f(x):\n" + "    x = x + 1\n" * 40, "# x\n" * 401,
        ):
            with self.subTest(text[:60]):
                self.assertNotEqual(faults_of(text), [])


if __name__ == "__main__":
    unittest.main()
