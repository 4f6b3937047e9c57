"""That the package keeps to the small part of Python that it is written in.

What a row of the rules allows and this package has no need of (lambdas, kept sets, try, annotations and
others) is told as a fault here too: that keeps the looking plain.
"""

import ast
import builtins
import re
import unittest
from pathlib import Path

ROOT = Path(__file__).resolve().parent.parent
PACKAGE = "restward"

OWN_NAMES = set(
    "len range enumerate zip min max sum abs sorted reversed int str bool bytes list tuple dict set frozenset"
    " isinstance ord repr any all divmod Exception ValueError TypeError KeyError IndexError LookupError"
    " ZeroDivisionError ArithmeticError OverflowError RuntimeError NotImplementedError AttributeError StopIteration"
    .split())
KINDS = {"int", "str", "bool", "bytes", "list", "tuple", "dict"}
METHODS = set(
    "append clear copy count endswith extend find get index insert isalnum isalpha isdigit islower isspace isupper"
    " items join keys ljust lower lstrip partition pop remove replace reverse rfind rjust rpartition rsplit rstrip"
    " setdefault split splitlines startswith strip update upper values zfill bit_length".split())
CHANGES = {"append", "clear", "extend", "insert", "pop", "remove", "reverse", "setdefault", "update"}
WORDS = re.compile(
    r"\b(type|typing|typing_extensions|enum|Enum|IntEnum|StrEnum|Flag|IntFlag|Generic|Protocol|ABC|ABCMeta|"
    r"namedtuple|NamedTuple|TypedDict|TYPE_CHECKING|abstractmethod)\b|dataclass|overload|contextmanager")
NO_NAMES = set(
    "register mro elements open input version_info with_traceback add_note attrgetter breakpoint builtins compile"
    " copyright credits delattr dir eval exec exit gc getattr globals hasattr help id importlib license locals"
    " methodcaller os quit setattr super type vars sys __name__ format format_map chr".split())
NODES = set(
    "Module FunctionDef ClassDef Return Assign AugAssign For While If Raise Expr Pass Break Continue ImportFrom"
    " alias arguments arg BoolOp And Or BinOp Add Sub Mult FloorDiv Mod Pow LShift RShift BitAnd BitOr BitXor"
    " UnaryOp USub Not Invert IfExp Dict List Tuple ListComp DictComp comprehension Compare Eq NotEq Lt LtE Gt GtE"
    " Is IsNot In NotIn Call keyword Constant Attribute Subscript Slice Name Load Store JoinedStr FormattedValue"
    .split())
WALKED = {"zip", "enumerate", "reversed", "range"}
WALKERS = {"list", "tuple", "dict", "sorted", "sum", "any", "all", "enumerate", "zip", "min", "max"}
KEYWORDS = {"sorted": {"key", "reverse"}, "min": {"key", "default"}, "max": {"key", "default"},
            "sum": {"start"}, "enumerate": {"start"}, "zip": {"strict"}}


def package_texts():
    return {path.stem: path.read_bytes().decode("ascii") for path in sorted((ROOT / PACKAGE).glob("*.py"))}


def parents_of(tree):
    return {child: node for node in ast.walk(tree) for child in ast.iter_child_nodes(node)}


def top_names(tree):
    """The names that a file's top binds, as often as it binds them, and those of imports and classes among them."""
    bound, drawn = [], set()
    for node in tree.body:
        if isinstance(node, (ast.FunctionDef, ast.ClassDef)):
            bound.append(node.name)
            if isinstance(node, ast.ClassDef):
                drawn.add(node.name)
        elif isinstance(node, ast.ImportFrom):
            bound.extend(alias.asname or alias.name for alias in node.names)
            drawn.update(alias.asname or alias.name for alias in node.names)
        elif isinstance(node, ast.Assign):
            bound.extend(target.id for target in node.targets if isinstance(target, ast.Name))
    return bound, drawn


def is_plain(node):
    if isinstance(node, ast.Constant):
        return isinstance(node.value, (int, str, bytes, bool, type(None)))
    if isinstance(node, (ast.Tuple, ast.List)):
        return all(is_plain(each) for each in node.elts)
    if isinstance(node, ast.Dict):
        return all(is_plain(each) and not isinstance(each, (ast.List, ast.Dict)) for each in node.keys + node.values)
    if isinstance(node, ast.UnaryOp):
        return isinstance(node.op, ast.USub) and is_plain(node.operand)
    return isinstance(node, ast.Name)


def own_of(tree):
    """The methods and the values that the classes of a file give."""
    methods, values = set(), set()
    for node in tree.body:
        for method in [each for each in getattr(node, "body", []) if isinstance(node, ast.ClassDef)]:
            if isinstance(method, ast.FunctionDef):
                methods.add(method.name)
                values |= {each.attr for each in ast.walk(method) if isinstance(each, ast.Attribute)
                           and isinstance(each.ctx, ast.Store)}
    return methods, values


class Looker:
    """Goes over one file and gathers its faults as (rule, line)."""

    def __init__(self, name, text):
        self.name, self.text = name, text
        self.faults = []
        self.tree = ast.parse(text)
        self.parents = parents_of(self.tree)
        self.bound, self.drawn = top_names(self.tree)
        self.methods, self.values = own_of(self.tree)
        self.kept = {node.targets[0].id for node in self.tree.body if isinstance(node, ast.Assign)
                     and isinstance(node.targets[0], ast.Name) and isinstance(node.value, (ast.List, ast.Dict))}

    def fault(self, rule, node):
        self.faults.append((rule, getattr(node, "lineno", node)))

    def look(self):
        self.look_at_signs()
        self.look_at_top()
        for node in ast.walk(self.tree):
            if type(node).__name__ not in NODES:
                self.fault("L6/L7 " + type(node).__name__, node)
            method = getattr(self, "look_" + type(node).__name__, None)
            if method:
                method(node)
        return self.faults

    def look_at_signs(self):
        rows = self.text.split("\n")
        if len(rows) > 401:
            self.fault("L10 file", len(rows))
        if not re.fullmatch(r"[a-z][a-z0-9_]*|__init__", self.name):
            self.fault("L14 file name", 0)
        for at, row in enumerate(rows, 1):
            if len(row) > 120 or "\t" in row:
                self.fault("L10 row", at)
            if re.search(r"[^ -~]", row):
                self.fault("L14 sign", at)
            if WORDS.search(row):
                self.fault("L17 word", at)

    def look_at_kept(self, node):
        """A list or dict of a file's top isn't changed, nor handed on."""
        for each in ast.walk(node):
            if isinstance(each, ast.Name) and each.id in self.kept:
                parent = self.parents[each]
                read = (isinstance(parent, ast.Subscript) and isinstance(parent.ctx, ast.Load)
                        or isinstance(parent, ast.Compare) or isinstance(parent, (ast.For, ast.comprehension))
                        or isinstance(parent, ast.Call) and getattr(parent.func, "id", "") == "len")
                if not read:
                    self.fault("L15 " + each.id, each)

    def look_at_top(self):
        for name in set(self.bound):
            if self.bound.count(name) > 1:
                self.fault("L15 bound twice: " + name, 0)
        for at, node in enumerate(self.tree.body):
            docstring = at == 0 and isinstance(node, ast.Expr) and isinstance(node.value, ast.Constant)
            value = isinstance(node, ast.Assign) and isinstance(node.targets[0], ast.Name) and is_plain(node.value)
            if not (docstring or value or isinstance(node, (ast.ImportFrom, ast.FunctionDef, ast.ClassDef))):
                self.fault("L3", node)

    def look_ImportFrom(self, node):
        if node.level or not (node.module or "").startswith(PACKAGE + "."):
            self.fault("L2", node)
        if self.parents[node] is not self.tree or any(alias.name == "*" or alias.asname for alias in node.names):
            self.fault("L2", node)

    def look_FunctionDef(self, node):
        if node.end_lineno - node.lineno + 1 > 40:
            self.fault("L10 def", node)
        if node.decorator_list or node.args.vararg or node.args.kwarg or node.args.posonlyargs:
            self.fault("L4", node)
        if node.returns or any(each.annotation for each in node.args.args):
            self.fault("L21", node)
        if not all(is_plain(each) for each in node.args.defaults):
            self.fault("L4", node)
        self.look_at_name(node, node.name)
        self.look_at_locals(node)
        self.look_at_kept(node)

    def look_at_locals(self, node):
        names = [each.arg for each in node.args.args]
        names += [each.id for each in ast.walk(node) if isinstance(each, ast.Name) and isinstance(each.ctx, ast.Store)]
        names += [each.name for each in ast.walk(node) if isinstance(each, ast.FunctionDef) and each is not node]
        for name in names:
            self.look_at_name(node, name)
            if name in self.drawn or hasattr(builtins, name):
                self.fault("L15 local " + name, node)
        known = set(names) | set(self.bound) | OWN_NAMES
        for each in ast.walk(node):
            if isinstance(each, ast.Name) and each.id not in known:
                self.fault("L8 " + each.id, each)

    def look_at_name(self, node, name):
        if not re.fullmatch(r"[A-Za-z][A-Za-z0-9_]*|__(init|eq|repr|str|len)__", name) or name in NO_NAMES:
            self.fault("L12/L17 " + name, node)

    def look_ClassDef(self, node):
        self.look_at_name(node, node.name)
        if self.parents[node] is not self.tree or node.decorator_list or node.keywords or len(node.bases) > 1:
            self.fault("L5", node)
        for at, row in enumerate(node.body):
            docstring = at == 0 and isinstance(row, ast.Expr) and isinstance(row.value, ast.Constant)
            if not (docstring or isinstance(row, (ast.FunctionDef, ast.Pass))):
                self.fault("L5", row)

    def look_Name(self, node):
        if node.id in NO_NAMES:
            self.fault("L17", node)
        parent = self.parents[node]
        called = isinstance(parent, ast.Call) and parent.func is node
        if node.id in OWN_NAMES and not called and isinstance(node.ctx, ast.Load) and not self.is_kind(node):
            self.fault("L22 kept " + node.id, node)

    def is_kind(self, node):
        """Whether a name of Python's own stands as a base, or as a kind by isinstance."""
        parent = self.parents[node]
        if isinstance(parent, ast.ClassDef):
            return True
        if isinstance(parent, ast.Tuple):
            node, parent = parent, self.parents[parent]
        if not (isinstance(parent, ast.Call) and isinstance(parent.func, ast.Name)):
            return False
        return parent.func.id == "isinstance" and parent.args[1] is node

    def look_Constant(self, node):
        if isinstance(node.value, (float, complex)) or node.value is Ellipsis:
            self.fault("L7", node)
        if isinstance(node.value, str) and "%" in node.value:
            self.fault("L27", node)

    def look_BinOp(self, node):
        if isinstance(node.op, ast.Pow):
            written = isinstance(node.right, ast.Constant) and isinstance(node.right.value, int)
            if not (written and 0 <= node.right.value <= 64):
                self.fault("L27", node)

    def look_Compare(self, node):
        sides = [node.left] + node.comparators
        for at, sign in enumerate(node.ops):
            if isinstance(sign, (ast.Is, ast.IsNot)):
                pair = sides[at:at + 2]
                if not any(isinstance(x, ast.Constant) and x.value in (None, True, False) for x in pair):
                    self.fault("L20", node)

    def look_Raise(self, node):
        made_there = isinstance(node.exc, ast.Call) and isinstance(node.exc.func, ast.Name)
        if not made_there or node.exc.func.id not in self.drawn or node.exc.keywords:
            self.fault("L19", node)

    def look_Assign(self, node):
        if len(node.targets) > 1 and self.parents[node] is self.tree:
            self.fault("L6", node)

    def look_ListComp(self, node):
        above = node
        while not isinstance(above, (ast.FunctionDef, ast.Module)):
            above = self.parents[above]
        if isinstance(above, ast.Module) or len(node.generators) > 6:
            self.fault("L7", node)

    look_DictComp = look_ListComp

    def look_FormattedValue(self, node):
        if node.format_spec is not None:
            self.fault("L7", node)

    def look_For(self, node):
        """What a loop walks isn't changed in it."""
        walked = {each.id for each in ast.walk(node.iter) if isinstance(each, ast.Name)}
        if node.orelse:
            self.fault("L6", node)
        for each in [inner for row in node.body for inner in ast.walk(row)]:
            target = None
            if isinstance(each, ast.Subscript) and isinstance(each.ctx, ast.Store):
                target = each.value
            if isinstance(each, ast.Call) and isinstance(each.func, ast.Attribute) and each.func.attr in CHANGES:
                target = each.func.value
            if isinstance(target, ast.Name) and target.id in walked and not self.only_measured(node.iter, target.id):
                self.fault("L23", each)

    def only_measured(self, walk, name):
        """Whether a name stands in a walk by its length alone."""
        for each in ast.walk(walk):
            if isinstance(each, ast.Name) and each.id == name:
                parent = self.parents[each]
                if not (isinstance(parent, ast.Call) and getattr(parent.func, "id", "") == "len"):
                    return False
        return True

    def look_While(self, node):
        if node.orelse:
            self.fault("L6", node)

    def look_Attribute(self, node):
        parent = self.parents[node]
        called = isinstance(parent, ast.Call) and parent.func is node
        if called and node.attr not in METHODS | self.methods or not called and node.attr not in self.values:
            self.fault("L18/L25 " + node.attr, node)
        if node.attr in METHODS & self.values or node.attr in self.methods & self.values or node.attr in NO_NAMES:
            self.fault("L18/L26 " + node.attr, node)
        if isinstance(node.ctx, ast.Store) and not (isinstance(node.value, ast.Name) and node.value.id == "self"):
            self.fault("L18", node)

    def look_Call(self, node):
        name = getattr(node.func, "id", "")
        for keyword in node.keywords:
            if name not in KEYWORDS or keyword.arg not in KEYWORDS[name]:
                self.fault("L22", node)
        if name == "isinstance":
            kinds = node.args[1].elts if isinstance(node.args[1], ast.Tuple) else [node.args[1]]
            if not all(getattr(kind, "id", "") in KINDS | self.drawn for kind in kinds):
                self.fault("L22", node)
        walked = name in WALKED or getattr(node.func, "attr", "") in ("items", "keys", "values")
        if walked and not self.walked_at_once(node, name):
            self.fault("L23", node)

    def walked_at_once(self, node, name):
        parent = self.parents[node]
        if isinstance(parent, (ast.For, ast.comprehension)):
            return parent.iter is node
        if isinstance(parent, ast.Compare):
            return name == "range"
        if not (isinstance(parent, ast.Call) and isinstance(parent.func, ast.Name)):
            return False
        if parent.func.id in ("reversed", "len"):
            return name == "range"
        return parent.func.id in WALKERS and parent.args[0] is node


def drawn_from(tree):
    return {node.module.split(".")[1]: [alias.name for alias in node.names]
            for node in tree.body if isinstance(node, ast.ImportFrom)}


def has_ring(draws):
    """Whether some file draws from itself, in whatever many steps."""
    left = dict(draws)
    while left:
        free = [name for name in left if not any(other in left for other in left[name])]
        if not free:
            return True
        for name in free:
            del left[name]
    return False


class Package(unittest.TestCase):
    def test_each_file_keeps_to_the_rules(self):
        texts = package_texts()
        self.assertIn("numbers", texts)
        for name, text in texts.items():
            self.assertEqual(Looker(name, text).look(), [], name)

    def test_nothing_else_lies_in_the_folder(self):
        for path in (ROOT / PACKAGE).iterdir():
            self.assertTrue(path.suffix == ".py" or path.name == "__pycache__", path)

    def test_names_are_drawn_from_the_file_that_defines_them(self):
        trees = {name: ast.parse(text) for name, text in package_texts().items()}
        for name, tree in trees.items():
            for other, names in drawn_from(tree).items():
                bound, drawn = top_names(trees[other])
                imported = [each for names in drawn_from(trees[other]).values() for each in names]
                for each in names:
                    self.assertIn(each, bound, (name, other))
                    self.assertNotIn(each, imported, (name, other))

    def test_no_two_files_draw_from_one_another(self):
        self.assertFalse(has_ring({name: drawn_from(ast.parse(text)) for name, text in package_texts().items()}))

    def test_what_is_drawn_is_used(self):
        for name, text in package_texts().items():
            tree = ast.parse(text)
            used = {node.id for node in ast.walk(tree) if isinstance(node, ast.Name)}
            for names in drawn_from(tree).values():
                self.assertLessEqual(set(names), used, name)


class TheLooker(unittest.TestCase):
    """That the looker above sees what it is there for."""

    WRONG = (
        "import math\n", "from .numbers import plus\n", "from restward.numbers import *\n", "x = [1]\nx = [2]\n",
        "def f(x):\n    return x / 2\n", "def f(x):\n    return 1.5\n", "def f(x):\n    return sum(y for y in x)\n",
        "def f(x):\n    return pow(x, 2)\n", "def f(*x):\n    return x\n", "def f(x):\n    return 2 ** x\n",
        "def f(sum):\n    return sum\n", "def f(x):\n    return x is f\n", "def f(x):\n    return '5%'\n",
        "def f(x):\n    y = zip(x, x)\n    return y\n", "def f(x):\n    for y in x:\n        x.append(y)\n",
        "def f(x: int):\n    return x\n", "def _f(x):\n    return x\n", "def f(x):\n    return x.sort(key=len)\n",
        "def f(x):\n    return len\n", "def f(x):\n    raise x\n", "def f(x):\n    global y\n", "print(1)\n",
        "# of no type\n", "x = 'a\u00e4'\n", "def f(x):\n" + "    x = 1\n" * 40, "x = 1\n" * 1 + "#" * 121 + "\n",
        "def f(x):\n    return [y := 1]\n", "def f(x):\n    with x:\n        pass\n", "class A:\n    b = 1\n",
        "@f\ndef g(x):\n    return x\n", "def f(x):\n    return isinstance(x, set)\n", "x = [y for y in (1, 2)]\n",
        "def f(x):\n    return f'{x:3}'\n", "def f(x):\n    try:\n        x()\n    except:\n        pass\n",
        "def f(x):\n    while x:\n        x = 0\n    else:\n        x = 1\n", "def f(x):\n    return chr(x)\n",
        "X = {1: []}\n", "X = {}\n\n\ndef f(y):\n    X[y] = 1\n", "X = [1]\n\n\ndef f(y):\n    return X\n",
        "def f(x):\n    return x.many\n", "def f(x):\n    x.many = 1\n", "def f(x):\n    return x.say(1)\n",
        "class A:\n    def __init__(self):\n        self.items = 1\n",
        "class A:\n    def say(self):\n        self.say = 1\n",
    )

    RIGHT = (
        '"""Words."""\n\nfrom restward.numbers import plus\n\nMANY = (1, 2)\n\n\ndef f(x, y=3):\n    """Words."""\n'
        "    total = 0\n    for at, (a, b) in enumerate(x):\n        total += a * b // 2\n    while total > 9:\n"
        "        total -= 1\n    return [plus(a, a) if a else None for a in reversed(x)] + list(range(y))\n",
        "def f(desk, x):\n    return desk.say(x)\n\n\nDEEDS = {'a': f}\n\n\nclass Desk:\n    def __init__(self):\n"
        "        self.many = {}\n\n    def say(self, x):\n        self.many[x] = 1\n        deed = DEEDS[x]\n"
        "        return deed(self, x)\n",
    )

    def test_faults_are_seen(self):
        for text in self.WRONG:
            self.assertNotEqual(Looker("some", text).look(), [], text)

    def test_what_is_allowed_is_let_by(self):
        for text in self.RIGHT:
            self.assertEqual(Looker("some", text).look(), [], text)

    def test_rings_are_seen(self):
        self.assertTrue(has_ring({"a": {"b": []}, "b": {"c": []}, "c": {"a": []}}))
        self.assertFalse(has_ring({"a": {"b": [], "c": []}, "b": {"c": []}, "c": {}}))
