"""The form of the package's files: those rules of LANGUAGE.md that a look at names and single steps can see.

L13, L19, L22 and L28 are not looked at, L15, L18, L23, L24 and L26 in part: what is not seen here is still asked for.
"""

import ast
import builtins
import pathlib
import re
import unittest

FOLDER = pathlib.Path(__file__).resolve().parent.parent / "stonebreath"

NODES = set("""
    Module ImportFrom alias FunctionDef arguments arg Return ClassDef Pass Assign AugAssign If While For Break Continue
    Raise Try ExceptHandler Expr BoolOp And Or BinOp UnaryOp Not USub Invert Compare IfExp Call keyword Attribute
    Subscript Slice ListComp comprehension Constant List Tuple Dict Set Name Load Store JoinedStr FormattedValue Lambda
    Add Sub Mult FloorDiv Mod Pow BitAnd BitOr BitXor LShift RShift Eq NotEq Lt LtE Gt GtE Is IsNot In NotIn
""".split())
OWN_NAMES = set("""
    len range enumerate zip min max sum abs sorted reversed int str bool list tuple dict set isinstance ord repr any
    all divmod Exception ValueError KeyError IndexError LookupError ZeroDivisionError ArithmeticError OverflowError
    RuntimeError NotImplementedError StopIteration frozenset TypeError AttributeError
""".split())
METHODS = set("""
    append clear copy count endswith extend find get index insert isalnum isalpha isdigit islower isspace isupper items
    join keys ljust lower lstrip partition pop remove replace reverse rfind rjust rpartition rsplit rstrip setdefault
    split splitlines startswith strip update upper values zfill bit_length
""".split())
NO_METHODS = set("register mro elements open input version_info with_traceback add_note format format_map".split())
NO_WORDS = re.compile(
    r"\b(type|typing|typing_extensions|enum|Enum|IntEnum|StrEnum|Flag|IntFlag|Generic|Protocol|ABC|ABCMeta|namedtuple"
    r"|NamedTuple|TypedDict|TYPE_CHECKING|abstractmethod)\b|dataclass|overload|contextmanager"
)
NO_FILES = set("test tests testing site conftest sitecustomize usercustomize".split())
WALKED = set("zip enumerate reversed range".split())
WALKERS = set("list tuple dict sorted sum any all enumerate zip min max".split())
PYTHONS_OWN = {name for kind in ("", 0, [], {}, set(), b"") for name in dir(kind)}
METHODS_TOO = METHODS | {"add", "discard"}
VALUES_TOO = set("count index title find get join lower upper split strip copy add".split())
TWO_LINES = set("__init__ __eq__ __repr__ __str__ __len__".split())


def faults_of_text(text):
    """L10, L14, L17: what the bare lines show."""
    lines = text.split("\n")
    if len(lines) > 401:
        yield "L10", 401
    for number, line in enumerate(lines, start=1):
        if len(line) > 120:
            yield "L10", number
        if not all(" " <= sign <= "~" for sign in line):
            yield "L14", number
        if NO_WORDS.search(line):
            yield "L17", number
        if re.search(r"\\[^nt\\'\"]", line):
            yield "L27", number


def faults_of_top(tree):
    """L2, L3, L15, L16: what stands at a file's top, and each name once."""
    bound = []
    for place, node in enumerate(tree.body):
        if isinstance(node, ast.Expr):
            if place != 0 or not isinstance(node.value, ast.Constant):
                yield "L3", node.lineno
        elif isinstance(node, ast.ImportFrom):
            bound += [(name.name, node.lineno) for name in node.names]
            if node.level or not node.module.startswith("stonebreath."):
                yield "L2", node.lineno
            if any(name.asname or name.name == "*" for name in node.names):
                yield "L2", node.lineno
        elif isinstance(node, (ast.FunctionDef, ast.ClassDef)):
            bound.append((node.name, node.lineno))
        elif isinstance(node, ast.Assign):
            bound += [(name.id, node.lineno) for name in node.targets if isinstance(name, ast.Name)]
        else:
            yield "L3", node.lineno
    names = [name for name, number in bound]
    for name, number in bound:
        if names.count(name) > 1:
            yield "L15", number


def faults_of_names(tree):
    """L8, L12, L15: how names, parameters and locals are called."""
    barred = {name.name for node in ast.walk(tree) if isinstance(node, ast.ImportFrom) for name in node.names}
    barred |= {node.name for node in ast.walk(tree) if isinstance(node, ast.ClassDef)} | set(dir(builtins))
    for node in ast.walk(tree):
        if isinstance(node, ast.Name) and isinstance(node.ctx, ast.Load):
            if node.id in dir(builtins) and node.id not in OWN_NAMES:
                yield "L8", node.lineno
        stored = [node.id] if isinstance(node, ast.Name) and isinstance(node.ctx, ast.Store) else []
        stored += [node.arg] if isinstance(node, ast.arg) else []
        if any(name in barred for name in stored):
            yield "L15", node.lineno
        stored += [node.name] if isinstance(node, (ast.FunctionDef, ast.ClassDef)) else []
        stored += [node.attr] if isinstance(node, ast.Attribute) else []
        if any(name.startswith("_") and name not in TWO_LINES for name in stored):
            yield "L12", node.lineno


def faults_of_kept(tree):
    """L15: a list or dict of a file's top is only read, on the spot."""
    kept = {
        node.targets[0].id for node in tree.body
        if isinstance(node, ast.Assign) and isinstance(node.value, (ast.List, ast.Dict))
    }
    read = set()
    for node in ast.walk(tree):
        if isinstance(node, ast.Subscript) and isinstance(node.ctx, ast.Load):
            read.add(node.value)
        if isinstance(node, ast.Compare):
            read.update(node.comparators)
        if isinstance(node, (ast.For, ast.comprehension)):
            read.add(node.iter)
        if isinstance(node, ast.Attribute) and node.attr in ("get", "items", "keys", "values", "index", "count"):
            read.add(node.value)
        if isinstance(node, ast.Call) and isinstance(node.func, ast.Name) and node.func.id in ("len", "list", "dict"):
            read.update(node.args)
    for node in ast.walk(tree):
        if isinstance(node, ast.Name) and isinstance(node.ctx, ast.Load) and node.id in kept and node not in read:
            yield "L15", node.lineno


def faults_of_defs(tree):
    """L4, L5, L10, L21: functions and classes."""
    for node in ast.walk(tree):
        if isinstance(node, (ast.FunctionDef, ast.ClassDef)) and node.decorator_list:
            yield "L4", node.lineno
        if isinstance(node, ast.FunctionDef):
            if node.end_lineno - node.lineno + 1 > 40:
                yield "L10", node.lineno
            if node.args.vararg or node.args.kwarg or node.args.kwonlyargs or node.args.posonlyargs:
                yield "L4", node.lineno
        if isinstance(node, ast.ClassDef):
            if len(node.bases) > 1 or node.keywords:
                yield "L5", node.lineno
            if any(not isinstance(part, (ast.FunctionDef, ast.Pass)) for part in node.body):
                yield "L5", node.lineno


def faults_of_steps(tree):
    """L6, L7, L20, L27: statements and expressions."""
    for node in ast.walk(tree):
        number = getattr(node, "lineno", 0)
        if type(node).__name__ not in NODES:
            yield "L7", number
        if isinstance(node, (ast.For, ast.While)) and node.orelse or isinstance(node, ast.Try) and node.finalbody:
            yield "L6", number
        if isinstance(node, ast.Assign):
            if len(node.targets) != 1 or isinstance(node.targets[0], (ast.Tuple, ast.List)):
                yield "L6", number
        if isinstance(node, ast.Expr) and node not in tree.body and not isinstance(node.value, ast.Call):
            yield "L6", number
        if isinstance(node, ast.ListComp) and (len(node.generators) != 1 or len(node.generators[0].ifs) > 1):
            yield "L7", number
        if isinstance(node, ast.FormattedValue) and (not isinstance(node.value, ast.Name) or node.format_spec):
            yield "L7", number
        if isinstance(node, ast.Constant):
            if not (node.value is None or type(node.value) in (int, str, bool)):
                yield "L7", number
            if isinstance(node.value, str) and "%" in node.value:
                yield "L27", number
        if isinstance(node, ast.Compare) and any(isinstance(sign, (ast.Is, ast.IsNot)) for sign in node.ops):
            sides = [node.left] + node.comparators
            if not any(isinstance(side, ast.Constant) and side.value in (None, True, False) for side in sides):
                yield "L20", number


def faults_of_calls(tree, own_methods):
    """L17, L23 to L25: what is called, and where."""
    walked_on_the_spot, asked_on_the_spot = set(), set()
    for node in ast.walk(tree):
        if isinstance(node, (ast.For, ast.comprehension)):
            walked_on_the_spot.add(node.iter)
        if isinstance(node, ast.Call) and isinstance(node.func, ast.Name):
            walked_on_the_spot.update(node.args if node.func.id in WALKERS else ())
            asked_on_the_spot.update(node.args if node.func.id in ("sorted", "len") else ())
        if isinstance(node, ast.Compare):
            asked_on_the_spot.update([node.left] + node.comparators)
        if isinstance(node, ast.BinOp):
            asked_on_the_spot.update([node.left, node.right])
    for node in ast.walk(tree):
        if isinstance(node, ast.Attribute) and node.attr in NO_METHODS:
            yield "L17", node.lineno
        if isinstance(node, ast.Call) and isinstance(node.func, ast.Attribute):
            if node.func.attr not in METHODS | own_methods:
                yield "L25", node.lineno
        if isinstance(node, ast.Call) and isinstance(node.func, ast.Name):
            if node.func.id in WALKED and node not in walked_on_the_spot:
                yield "L23", node.lineno
            if node.func.id in ("set", "frozenset") and node not in asked_on_the_spot:
                yield "L24", node.lineno


def methods_of(tree):
    classes = [node for node in ast.walk(tree) if isinstance(node, ast.ClassDef)]
    return {part.name for node in classes for part in node.body if isinstance(part, ast.FunctionDef)}


def values_of(tree):
    stored = [node for node in ast.walk(tree) if isinstance(node, ast.Attribute) and isinstance(node.ctx, ast.Store)]
    return {node.attr for node in stored}


def faults_of_own_names(methods, values):
    """L18, L26: over the whole package no name is both, and which names are free."""
    for name in sorted(methods & values):
        yield "L18", name
    for name in sorted((methods - METHODS_TOO - TWO_LINES | values - VALUES_TOO) & PYTHONS_OWN):
        yield "L26", name


def faults(text, own_methods=frozenset()):
    tree = ast.parse(text)
    found = list(faults_of_text(text)) + list(faults_of_top(tree)) + list(faults_of_names(tree))
    found += list(faults_of_kept(tree)) + list(faults_of_defs(tree)) + list(faults_of_steps(tree))
    return found + list(faults_of_calls(tree, own_methods | methods_of(tree) | {"__init__"}))


def package_files():
    return [path for path in sorted(FOLDER.rglob("*")) if "__pycache__" not in path.parts]


class FormTest(unittest.TestCase):
    def test_nothing_but_plain_files_lies_in_the_package(self):
        self.assertIn(FOLDER / "__init__.py", package_files())
        for path in package_files():
            self.assertTrue(path.is_file() and re.fullmatch(r"[a-z0-9_]+\.py", path.name), path)
            self.assertFalse(path.stem in NO_FILES or path.stem.startswith("test_") or path.stem in dir(builtins))

    def test_no_file_draws_from_itself(self):
        drawn = {}
        for path in package_files():
            tree = ast.parse(path.read_text())
            modules = [node.module for node in tree.body if isinstance(node, ast.ImportFrom)]
            drawn[path.stem] = {module.partition(".")[2] for module in modules}
        self.assertEqual(drawn["__init__"], set())
        while drawn:
            free = [name for name in drawn if not drawn[name] & set(drawn)]
            self.assertTrue(free, drawn)
            drawn = {name: drawn[name] for name in drawn if name not in free}

    def test_each_name_is_drawn_from_the_file_that_defines_it(self):
        for path in package_files():
            for node in ast.parse(path.read_text()).body:
                if isinstance(node, ast.ImportFrom):
                    source = ast.parse((FOLDER / (node.module.partition(".")[2] + ".py")).read_text())
                    defined = {part.name for part in source.body if isinstance(part, (ast.FunctionDef, ast.ClassDef))}
                    parts = [part for part in source.body if isinstance(part, ast.Assign)]
                    defined |= {part.targets[0].id for part in parts}
                    self.assertLessEqual({name.name for name in node.names}, defined, path)

    def test_each_file_keeps_to_the_rules(self):
        texts = {path.name: path.read_text() for path in package_files()}
        own_methods = set().union(*[methods_of(ast.parse(text)) for text in texts.values()])
        for name, text in texts.items():
            self.assertEqual(faults(text, own_methods), [], name)

    def test_the_names_of_methods_and_values(self):
        trees = [ast.parse(path.read_text()) for path in package_files()]
        methods = set().union(*[methods_of(tree) for tree in trees])
        values = set().union(*[values_of(tree) for tree in trees])
        self.assertEqual(list(faults_of_own_names(methods, values)), [])
        self.assertEqual(list(faults_of_own_names({"hand", "get"}, {"hand"})), [("L18", "hand")])
        self.assertEqual(list(faults_of_own_names({"sort"}, {"items"})), [("L26", "items"), ("L26", "sort")])

    def test_what_is_against_a_rule_is_seen(self):
        for rule, text in (
            ("L2", "import re"), ("L2", "from .errors import NoLay"), ("L3", "print(1)"),
            ("L4", "def f(*a):\n    pass"),
            ("L5", "class A:\n    x = 1"), ("L6", "def f():\n    a = b = 1"), ("L6", "def f():\n    a, b = (1, 2)"),
            ("L7", "x = 1.5"), ("L7", "def f(a):\n    return a / 2"), ("L7", "def f(a):\n    return any(b for b in a)"),
            ("L8", "def f(a):\n    return hash(a)"), ("L10", "x = 1" + " " * 120), ("L12", "_x = 1"),
            ("L14", "x = 1\t"), ("L15", "x = 1\nx = 2"), ("L15", "def f(list):\n    pass"), ("L17", "# a type"),
            ("L20", "def f(a, b):\n    return a is b"), ("L23", "def f():\n    a = range(3)\n    return a"),
            ("L24", "def f(a):\n    return set(a)"), ("L25", "def f(a):\n    a.sort()"), ("L27", "x = '%'"),
            ("L10", "def f():\n" + "    pass\n" * 40), ("L15", "x = {1: 2}\ndef f():\n    return x"),
            ("L15", "x = [1]\ndef f():\n    x.append(2)"), ("L15", "x = [1]\ndef f():\n    x[0] = 2"),
        ):
            seen = [fault[0] for fault in faults(text)]
            self.assertTrue(rule in seen or (rule == "L2" and "L3" in seen), (rule, text, seen))


if __name__ == "__main__":
    unittest.main()
