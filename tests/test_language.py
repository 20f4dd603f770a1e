"""Holds the package's files against those rules of the language that a look at the code can tell."""

import ast
import builtins
import pathlib
import re
import unittest

PACKAGE = pathlib.Path(__file__).resolve().parent.parent / "grope"
MODULES = {f"grope.{path.stem}": path for path in sorted(PACKAGE.glob("*.py"))}

NODES = set(
    # L3 to L7
    "Module FunctionDef ClassDef arguments arg Return Assign AugAssign For While If Raise Try ExceptHandler "
    "ImportFrom alias Expr Pass Break Continue BoolOp And Or BinOp Add Sub Mult FloorDiv Mod Pow LShift RShift BitOr "
    "BitXor BitAnd UnaryOp Not USub UAdd Invert Lambda IfExp Dict Set ListComp comprehension Compare Eq NotEq Lt LtE "
    "Gt GtE Is IsNot In NotIn Call JoinedStr FormattedValue Constant Attribute Subscript Name List Tuple Slice Load "
    "Store keyword".split()
)
BUILTINS = set(
    # L8, less what L27 takes out
    "len range enumerate zip min max sum abs sorted reversed int str bool list tuple dict set frozenset isinstance "
    "ord repr any all divmod Exception ValueError TypeError KeyError IndexError LookupError ZeroDivisionError "
    "ArithmeticError OverflowError RuntimeError NotImplementedError AttributeError StopIteration".split()
)
METHODS = set(
    # L25
    "append clear copy count endswith extend find get index insert isalnum isalpha isdigit islower isspace isupper "
    "items join keys ljust lower lstrip partition pop remove replace reverse rfind rjust rpartition rsplit rstrip "
    "setdefault split splitlines startswith strip update upper values zfill bit_length".split()
)
OWN_DOUBLE = {"__init__", "__eq__", "__repr__", "__str__", "__len__"}
NOWHERE = re.compile(
    # L17
    r"\b(type|typing|typing_extensions|enum|Enum|IntEnum|StrEnum|Flag|IntFlag|Generic|Protocol|ABC|ABCMeta|namedtuple"
    r"|NamedTuple|TypedDict|TYPE_CHECKING|abstractmethod)\b|dataclass|overload|contextmanager"
)
NOT_USED = {"register", "mro", "elements", "open", "input", "version_info", "with_traceback", "add_note", "format"}
# L23
CHANGING = {"append", "clear", "extend", "insert", "pop", "remove", "reverse", "setdefault", "update"}
# L22, L23
WALKED = {"zip", "enumerate", "reversed", "range", "items", "keys", "values"}
WALKERS = {"list", "tuple", "dict", "sorted", "sum", "any", "all", "enumerate", "zip"}
KEYWORDS = {
    "sorted": {"key", "reverse"}, "min": {"key", "default"}, "max": {"key", "default"}, "sum": {"start"},
    "enumerate": {"start"}, "zip": {"strict"},
}


def own_methods(trees):
    found = set()
    for tree in trees:
        for node in ast.walk(tree):
            if isinstance(node, ast.ClassDef):
                found.update(item.name for item in node.body if isinstance(item, ast.FunctionDef))
    return found


def own_classes(trees):
    return {node.name for tree in trees for node in ast.walk(tree) if isinstance(node, ast.ClassDef)}


def own_values(trees):
    found = set()
    for tree in trees:
        for node in ast.walk(tree):
            if isinstance(node, ast.Attribute) and isinstance(node.ctx, ast.Store):
                found.add(node.attr)
    return found


def faults_of_text(source):
    faults = []
    lines = source.split("\n")
    if len(lines) > 401:
        faults.append("L10: a file of more than 400 lines")
    for number, line in enumerate(lines, start=1):
        if len(line) > 120:
            faults.append(f"L10: line {number} is too long")
        if any(not " " <= sign <= "~" for sign in line):
            faults.append(f"L14: a strange sign in line {number}")
        if NOWHERE.search(line):
            faults.append(f"L17: a word that stands nowhere in line {number}")
    return faults


def faults_of_node(node, methods):
    kind = node.__class__.__name__
    if kind not in NODES:
        return [f"L6, L7: {kind}"]
    faults = []
    if isinstance(node, ast.FunctionDef):
        faults.extend(faults_of_def(node))
    if isinstance(node, ast.ClassDef):
        if node.decorator_list or node.keywords or len(node.bases) > 1:
            faults.append("L5: a decorator, or more than one base")
        if not all(isinstance(item, (ast.FunctionDef, ast.Pass)) for item in node.body):
            faults.append("L5: something else than methods in a class")
    if isinstance(node, ast.ImportFrom):
        plain = node.level == 0 and f"{node.module}".startswith("grope.")
        if not plain or any(name.name == "*" or name.asname for name in node.names):
            faults.append("L2, L16: an import that is none of the package's own by its full name")
    if isinstance(node, (ast.For, ast.While)) and node.orelse:
        faults.append("L6: an else behind a loop")
    if isinstance(node, ast.Assign) and len(node.targets) > 1:
        faults.append("L6: more than one target")
    if isinstance(node, ast.ListComp) and (len(node.generators) > 1 or len(node.generators[0].ifs) > 1):
        faults.append("L7: a comprehension with more than one for or if")
    if isinstance(node, ast.FormattedValue) and not isinstance(node.value, ast.Name):
        faults.append("L7: more than a name in an f-string")
    if isinstance(node, ast.Constant) and isinstance(node.value, (float, bytes, complex)):
        faults.append("L7: a value of another kind")
    if isinstance(node, ast.Constant) and isinstance(node.value, str) and "%" in node.value:
        faults.append("L27: a sign that stands in no text")
    if isinstance(node, ast.Compare) and any(isinstance(op, (ast.Is, ast.IsNot)) for op in node.ops):
        sides = [node.left] + node.comparators
        if not any(isinstance(side, ast.Constant) and side.value in (None, True, False) for side in sides):
            faults.append("L20: is, but not beside None, True or False")
    return faults + faults_of_names(node, methods)


def faults_of_def(node):
    faults = []
    given = node.args
    if node.decorator_list or given.vararg or given.kwarg or given.kwonlyargs or given.posonlyargs:
        faults.append(f"L4: {node.name} has more than plain parameters")
    if node.returns or any(arg.annotation for arg in given.args):
        faults.append(f"L21: {node.name} has annotations")
    if node.end_lineno - node.lineno + 1 > 40:
        faults.append(f"L10: {node.name} has more than 40 lines")
    return faults


def faults_of_names(node, methods):
    faults = []
    bound = []
    if isinstance(node, ast.Name):
        if node.id in vars(builtins) and node.id not in BUILTINS:
            faults.append(f"L8: {node.id}")
        if isinstance(node.ctx, ast.Store):
            bound.append(node.id)
    if isinstance(node, ast.arg):
        bound.append(node.arg)
    if isinstance(node, (ast.FunctionDef, ast.ClassDef)):
        bound.append(node.name)
    if isinstance(node, ast.Attribute):
        if node.attr in NOT_USED or (node.attr.startswith("_") and node.attr not in OWN_DOUBLE):
            faults.append(f"L12, L17: the attribute {node.attr}")
    for name in bound:
        if (name.startswith("_") and name not in OWN_DOUBLE) or not name.isascii():
            faults.append(f"L12: the name {name}")
        if name in vars(builtins) or name in NOT_USED:
            faults.append(f"L15, L17: the name {name}")
    if isinstance(node, ast.Call) and isinstance(node.func, ast.Attribute):
        if node.func.attr not in METHODS | methods | OWN_DOUBLE:
            faults.append(f"L25: the method {node.func.attr}")
    return faults


def faults_of_top(tree):
    faults = []
    names = []
    for place, node in enumerate(tree.body):
        if isinstance(node, (ast.FunctionDef, ast.ClassDef)):
            names.append(node.name)
        elif isinstance(node, ast.ImportFrom):
            names.extend(name.name for name in node.names)
        elif isinstance(node, ast.Assign) and isinstance(node.targets[0], ast.Name):
            names.append(node.targets[0].id)
        elif not (place == 0 and isinstance(node, ast.Expr) and isinstance(node.value, ast.Constant)):
            faults.append("L3: something is done at the top of a file")
    if len(set(names)) < len(names):
        faults.append("L15: a name is bound twice at the top of a file")
    return faults


def called(node):
    """The name of the function or method that is called here, or None."""
    if not isinstance(node, ast.Call):
        return None
    return node.func.id if isinstance(node.func, ast.Name) else node.func.attr


def is_walked_at_once(node, above):
    if isinstance(above, (ast.For, ast.comprehension)):
        return above.iter is node
    if isinstance(above, ast.Call) and isinstance(above.func, ast.Name) and above.args[:1] == [node]:
        return above.func.id in WALKERS or (above.func.id in ("min", "max") and len(above.args) == 1)
    return called(above) == "join" and isinstance(above.func.value, ast.Constant)


def is_set_on_the_spot(node, above):
    if isinstance(above, ast.Compare):
        return all(isinstance(op, (ast.In, ast.NotIn, ast.Eq, ast.NotEq)) for op in above.ops)
    return called(above) in ("sorted", "len") and above.args == [node] and not above.keywords


def faults_of_places(tree):
    """What may stand only in some places: walks, sets, Python's own names, keywords."""
    above = {below: node for node in ast.walk(tree) for below in ast.iter_child_nodes(node)}
    faults = []
    for node in ast.walk(tree):
        name = called(node)
        own = name is not None and isinstance(node.func, ast.Name)
        if name in WALKED and not is_walked_at_once(node, above[node]):
            faults.append(f"L23: {name} is not walked on the spot")
        if isinstance(node, ast.Set) or (own and name in ("set", "frozenset")):
            outer = node
            while isinstance(above[outer], ast.BinOp):
                outer = above[outer]
            if not is_set_on_the_spot(outer, above[outer]):
                faults.append("L24: a set that is kept or walked")
        if own and name in BUILTINS and not {word.arg for word in node.keywords} <= KEYWORDS.get(name, set()):
            faults.append(f"L22: a keyword at {name}")
        if isinstance(node, ast.Name) and node.id in BUILTINS and not is_placed(node, above):
            faults.append(f"L22: {node.id} is not called")
    return faults


def walked_things(node):
    """What a loop walks, as it is written, also through enumerate, zip, reversed and the walks of a dict."""
    if isinstance(node, ast.Call) and isinstance(node.func, ast.Name) and called(node) in WALKED:
        return [thing for given in node.args for thing in walked_things(given)]
    if isinstance(node, ast.Call) and called(node) in WALKED:
        return walked_things(node.func.value)
    return [ast.dump(node)] if isinstance(node, (ast.Name, ast.Attribute, ast.Subscript)) else []


def changed_things(node):
    if isinstance(node, ast.Call) and isinstance(node.func, ast.Attribute) and node.func.attr in CHANGING:
        return [node.func.value]
    targets = node.targets if isinstance(node, ast.Assign) else []
    return [target.value for target in targets if isinstance(target, ast.Subscript)]


def faults_of_loops(tree):
    faults = []
    for loop in ast.walk(tree):
        if isinstance(loop, ast.For):
            walked = walked_things(loop.iter)
            for node in [below for row in loop.body for below in ast.walk(row)]:
                if any(ast.dump(thing) in walked for thing in changed_things(node)):
                    faults.append("L23: what a loop walks is changed in it")
    return faults


def faults_of_classes(tree, classes):
    above = {below: node for node in ast.walk(tree) for below in ast.iter_child_nodes(node)}
    faults = []
    for node in ast.walk(tree):
        if isinstance(node, ast.Name) and node.id in classes and not is_placed(node, above):
            outer = above[node]
            if not (isinstance(outer, ast.Attribute) and outer.attr == "__init__"):
                faults.append(f"L18: the class {node.id} is handed on")
    return faults


def is_placed(node, above):
    outer = above[node]
    if isinstance(outer, ast.Tuple):
        node, outer = outer, above[outer]
    if isinstance(outer, ast.Call):
        return outer.func is node or (called(outer) == "isinstance" and outer.args[1] is node)
    return isinstance(outer, (ast.ClassDef, ast.ExceptHandler, ast.Raise, ast.keyword))


def faults_of_locals(tree):
    tops = [item.name for item in tree.body if isinstance(item, ast.ClassDef)]
    for item in tree.body:
        if isinstance(item, ast.ImportFrom):
            tops.extend(name.name for name in item.names)
    faults = []
    for item in tree.body:
        if isinstance(item, (ast.FunctionDef, ast.ClassDef)):
            for node in ast.walk(item):
                stored = isinstance(node, ast.Name) and isinstance(node.ctx, ast.Store)
                name = node.arg if isinstance(node, ast.arg) else node.id if stored else None
                if name in tops:
                    faults.append(f"L15: the local {name} is called like a class or an import")
    return faults


def faults_of(source, methods=frozenset(), classes=frozenset()):
    tree = ast.parse(source)
    faults = faults_of_text(source) + faults_of_top(tree) + faults_of_places(tree) + faults_of_locals(tree)
    faults += faults_of_loops(tree) + faults_of_classes(tree, classes | own_classes([tree]))
    for node in ast.walk(tree):
        faults.extend(faults_of_node(node, methods))
    return faults


class Package(unittest.TestCase):
    def setUp(self):
        self.sources = {name: path.read_text(encoding="utf-8") for name, path in MODULES.items()}
        self.trees = {name: ast.parse(source) for name, source in self.sources.items()}

    def test_only_plain_files_lie_in_it(self):
        self.assertIn("grope.__init__", MODULES)
        for path in PACKAGE.iterdir():
            if path.name != "__pycache__":
                self.assertRegex(path.name, r"\A(__init__|__main__|[a-z][a-z0-9_]*)\.py\Z")
                self.assertNotIn(path.stem, dir(builtins))

    def test_each_file_keeps_to_the_rules(self):
        methods = own_methods(self.trees.values())
        classes = own_classes(self.trees.values())
        for name, source in self.sources.items():
            with self.subTest(name=name):
                self.assertEqual(faults_of(source, methods, classes), [])

    def test_imports_are_drawn_from_where_they_are_defined_and_in_no_ring(self):
        drawn = {}
        for name, tree in self.trees.items():
            rows = [node for node in tree.body if isinstance(node, ast.ImportFrom)]
            drawn[name] = {row.module for row in rows}
            for row in rows:
                tops = [item for item in self.trees[row.module].body if not isinstance(item, ast.ImportFrom)]
                defined = {item.name for item in tops if isinstance(item, (ast.FunctionDef, ast.ClassDef))}
                defined |= {item.targets[0].id for item in tops if isinstance(item, ast.Assign)}
                self.assertLessEqual({alias.name for alias in row.names}, defined, name)
        while drawn:
            free = [name for name in drawn if not drawn[name] & set(drawn)]
            self.assertNotEqual(free, [], "files draw from one another")
            drawn = {name: drawn[name] for name in drawn if name not in free}

    def test_no_name_is_a_method_and_a_value(self):
        methods = own_methods(self.trees.values())
        values = own_values(self.trees.values())
        self.assertEqual(methods & values, set())
        allowed = set("count index title find get join lower upper split strip copy add".split())
        for value in values - allowed:
            for kind in ("", 0, [], (), {}, set(), b""):
                self.assertFalse(hasattr(kind, value), value)


class TheCheckItself(unittest.TestCase):
    def test_good_code(self):
        for source in [
            '"""Words."""\n\nKEYS = ("a", "b")\n\n\ndef told(key):\n    return key in KEYS\n',
            "def f(a):\n    return [k for k in range(a) if k in set(a)]\n",
            "def f(a):\n    return sorted(set(a) - set([1])) == list(zip(a, a))\n",
            "def f(a):\n    return sorted(a.items(), key=len, reverse=True)\n",
            "def f(a):\n    return isinstance(a, (int, str)) or isinstance(a, list) or max(range(a), default=1)\n",
            "def f(a):\n    try:\n        return a[0]\n    except IndexError:\n        raise ValueError('a')\n",
            "class A:\n    pass\n\n\nclass B(A):\n    pass\n\n\ndef f(a):\n    return isinstance(a, A) or f(B())\n",
            "def f(a, b):\n    for k in a:\n        b.append(k)\n        b[0] = a[0]\n    a.clear()\n",
        ]:
            with self.subTest(source=source):
                self.assertEqual(faults_of(source), [])

    def test_bad_code(self):
        for source in [
            "import os\n",
            "from os import path\n",
            "from grope.errors import *\n",
            "from .errors import NoName\n",
            "import grope.errors\n",
            "print(1)\n",
            "A = 1\nA = 2\n",
            "A = 1.5\n",
            "A = 3 / 2\n",
            "A = 'a%b'\n",
            "A = {1: 2 for k in (1, 2)}\n",
            "A = 'a\u00e9'\n",
            "# what type it is\n",
            "def f(*a):\n    return a\n",
            "def f(a: int):\n    return a\n",
            "def f(_a):\n    return 1\n",
            "def f(id):\n    return 1\n",
            "def f(a):\n    return getattr(a, 'b')\n",
            "def f(a):\n    return a.title()\n",
            "def f(a):\n    return a is f\n",
            "def f(a):\n    return f'{a.b}'\n",
            "def f(a):\n    return a._b\n",
            "def f(a):\n    a = b = 1\n",
            "def f(a):\n    yield a\n",
            "def f(a):\n    assert a\n",
            "def f(a):\n    return [k for j in a for k in j]\n",
            "def f(a):\n    for k in a:\n        pass\n    else:\n        pass\n",
            "class A:\n    b = 1\n",
            "def f(a):\n    b = range(a)\n    return b\n",
            "def f(a):\n    return zip(a, a)\n",
            "def f(a):\n    return list(zip(a, enumerate(a)))\n",
            "def f(a):\n    return a.items()\n",
            "def f(a):\n    return max(range(a), range(3))\n",
            "def f(a):\n    b = set(a)\n    return b\n",
            "def f(a):\n    return [k for k in set(a)]\n",
            "def f(a):\n    return list(set(a))\n",
            "def f(a):\n    return set(a) - set([1])\n",
            "def f(a):\n    return sorted(set(a), key=len)\n",
            "def f(a):\n    b = len\n    return b(a)\n",
            "def f(a):\n    return [len, a]\n",
            "def f(a):\n    return int(a, base=2)\n",
            "class A:\n    pass\n\n\ndef f(A):\n    return A\n",
            "from grope.sets import within\n\n\ndef f(a):\n    within = 1\n    return within\n",
            "class A:\n    pass\n\n\ndef f(a):\n    return [A, a]\n",
            "class A:\n    pass\n\n\ndef f(a):\n    return f(A)\n",
            "class A:\n    pass\n\n\ndef f(a):\n    A.b = a\n",
            "def f(a):\n    for k in a:\n        a.append(k)\n",
            "def f(a):\n    for k, b in enumerate(a):\n        a[k] = b\n",
            "def f(a):\n    for k, b in a.items():\n        a.pop(k)\n",
            "def f(a):\n    for k in reversed(a.b):\n        a.b.clear()\n",
            "def f(a):\n" + "    a += 1\n" * 40,
            "A = 1\n" + "# a\n" * 400,
            "# " + "a" * 120 + "\n",
        ]:
            with self.subTest(source=source[:60]):
                self.assertNotEqual(faults_of(source), [])


if __name__ == "__main__":
    unittest.main()
