"""The package's files keep to the rules of LANGUAGE.md that a program can see."""

import ast
import builtins
import os
import re
import unittest

TOP = os.path.dirname(os.path.dirname(os.path.abspath(__file__)))
PACKAGE = "selfword"

SYNTAX = tuple(getattr(ast, name) for name in """
    Module Expr Assign AugAssign AnnAssign If While For Return Break Continue Pass Raise Try ExceptHandler
    FunctionDef ClassDef Import ImportFrom alias arguments arg Constant Name Load Store Attribute Subscript Slice
    Tuple List Dict Set BinOp Add Sub Mult FloorDiv Mod Pow BitAnd BitOr BitXor LShift RShift UnaryOp USub UAdd Not
    Invert BoolOp And Or Compare Eq NotEq Lt LtE Gt GtE Is IsNot In NotIn IfExp Call keyword ListComp comprehension
    Lambda JoinedStr FormattedValue""".split())

BUILTINS = """len range enumerate zip min max sum abs sorted reversed int str bool list tuple dict set frozenset
    isinstance ord repr any all divmod Exception ValueError TypeError KeyError IndexError LookupError
    ZeroDivisionError ArithmeticError OverflowError RuntimeError NotImplementedError AttributeError
    StopIteration""".split()

METHODS = """append clear copy count endswith extend find get index insert isalnum isalpha isdigit islower isspace
    isupper items join keys ljust lower lstrip partition pop remove replace reverse rfind rjust rpartition rsplit
    rstrip setdefault split splitlines startswith strip update upper values zfill bit_length add discard
    title""".split()

PYTHONS_OWN = {name for kind in (str, int, list, tuple, dict, set, bytes) for name in dir(kind)}

FREE_VALUES = """count index title find get join lower upper split strip copy add""".split()

NOWHERE = """register mro elements open input version_info with_traceback add_note""".split()

NOT_AS_NAMES = """attrgetter breakpoint builtins compile copyright credits delattr dir eval exec exit gc getattr
    globals hasattr help id importlib license locals methodcaller os quit setattr super type vars""".split()

WORDS = """type typing typing_extensions enum Enum IntEnum StrEnum Flag IntFlag Generic Protocol ABC ABCMeta
    namedtuple NamedTuple TypedDict TYPE_CHECKING abstractmethod""".split()

WITHIN_WORDS = ("dataclass", "overload", "contextmanager")

FILE_NAMES = ("test", "tests", "testing", "site", "conftest", "sitecustomize", "usercustomize")

DUNDERS = ("__init__", "__eq__", "__repr__", "__str__", "__len__", "__all__", "__version__", "__name__")


def file_name_faults(name):
    """Faults of a file's name in the package: L1, L14, L17."""
    stem, ending = os.path.splitext(name)
    if stem in ("__init__", "__main__") and ending == ".py":
        return []
    faults = []
    if ending != ".py" or not re.fullmatch("[a-z][a-z0-9_]*", stem):
        faults.append("L1")
    if stem in FILE_NAMES or stem.startswith("test_") or stem in WORDS or hasattr(builtins, stem):
        faults.append("L14")
    return faults


def sign_faults(source):
    """Faults of a file's rows and signs: L10, L14, L17."""
    faults = []
    rows = source.split("\n")
    if len(source.splitlines()) > 400 or any(len(row) > 120 or "\t" in row for row in rows):
        faults.append("L10")
    if any(sign != "\n" and not " " <= sign <= "~" for sign in source):
        faults.append("L14")
    if set(re.findall(r"\w+", source)) & set(WORDS) or any(word in source for word in WITHIN_WORDS):
        faults.append("L17")
    return faults


def import_fault(node):
    """The fault of an import: L2, L16."""
    if isinstance(node, ast.Import):
        return "L2"
    future = node.module == "__future__" and [a.name for a in node.names] == ["annotations"]
    own = node.level == 0 and re.fullmatch(PACKAGE + r"\.[a-z][a-z0-9_]*", node.module or "")
    if not future and (not own or any(a.name == "*" for a in node.names)):
        return "L2"
    return None


def top_faults(tree):
    """Faults of what stands at a file's top: L2, L3."""
    faults = []
    for place, node in enumerate(tree.body):
        words = isinstance(node, ast.Expr) and isinstance(node.value, ast.Constant) and place == 0
        if not words and not isinstance(node, (ast.ImportFrom, ast.FunctionDef, ast.ClassDef, ast.Assign)):
            faults.append("L3")
    inner = [node for node in ast.walk(tree) if isinstance(node, (ast.Import, ast.ImportFrom))]
    if any(node not in tree.body for node in inner):
        faults.append("L2")
    return faults


def def_fault(node):
    """The fault of a def: L4, L10."""
    given = node.args
    if node.decorator_list or given.vararg or given.kwarg or given.kwonlyargs or given.posonlyargs:
        return "L4"
    if node.end_lineno - node.lineno + 1 > 40:
        return "L10"
    return None


def class_fault(node):
    """The fault of a class: L5."""
    if node.decorator_list or len(node.bases) > 1 or node.keywords:
        return "L5"
    for inner in node.body:
        words = isinstance(inner, ast.Expr) and isinstance(inner.value, ast.Constant)
        if not words and not isinstance(inner, ast.FunctionDef):
            return "L5"
    return None


def name_fault(name):
    """The fault of a name: L8, L12, L17."""
    if name in DUNDERS:
        return None
    if not re.fullmatch("[A-Za-z][A-Za-z0-9_]*", name):
        return "L12"
    if name in NOWHERE or name in NOT_AS_NAMES or name == "sys":
        return "L17"
    if hasattr(builtins, name) and name not in BUILTINS:
        return "L8"
    return None


def binding_fault(name):
    """The fault of a name that is given a value: L15, or as above."""
    return "L15" if hasattr(builtins, name) else name_fault(name)


def attribute_fault(name):
    """The fault of a name behind a dot: L12, L17, L25."""
    if name == "__init__":
        return None
    if not re.fullmatch("[A-Za-z][A-Za-z0-9_]*", name):
        return "L12"
    if name in NOWHERE:
        return "L17"
    if name in PYTHONS_OWN and name not in METHODS:
        return "L25"
    return None


def constant_fault(value):
    """The fault of a written value: L7, L27."""
    if isinstance(value, (float, complex, bytes)) or value is ...:
        return "L7"
    if isinstance(value, str) and "%" in value:
        return "L27"
    return None


def is_fault(node):
    """The fault of `is` beside another value than None, True and False: L20."""
    for operator, left, right in zip(node.ops, [node.left] + node.comparators, node.comparators):
        sides = [ast.unparse(side) for side in (left, right)]
        if isinstance(operator, (ast.Is, ast.IsNot)) and not set(sides) & {"None", "True", "False"}:
            return "L20"
    return None


def statement_fault(node):
    """The fault of a statement that is allowed but for its form: L6, L19."""
    if isinstance(node, (ast.For, ast.While)) and node.orelse:
        return "L6"
    if isinstance(node, ast.Try) and node.finalbody:
        return "L6"
    if isinstance(node, ast.Assign) and len(node.targets) != 1:
        return "L6"
    if isinstance(node, ast.ExceptHandler):
        if node.type is None:
            return "L6"
        if set(n.id for n in ast.walk(node.type) if isinstance(n, ast.Name)) & {"Exception", "TypeError"}:
            return "L19"
    return None


def node_fault(node):
    """The fault of one node of a file's syntax, or None."""
    if not isinstance(node, SYNTAX):
        return "L6/L7"
    if isinstance(node, (ast.Import, ast.ImportFrom)):
        return import_fault(node)
    if isinstance(node, ast.FunctionDef):
        return def_fault(node) or name_fault(node.name)
    if isinstance(node, ast.ClassDef):
        return class_fault(node) or binding_fault(node.name)
    if isinstance(node, ast.arg):
        return binding_fault(node.arg)
    if isinstance(node, ast.Name):
        return name_fault(node.id) if isinstance(node.ctx, ast.Load) else binding_fault(node.id)
    if isinstance(node, ast.Attribute):
        return attribute_fault(node.attr)
    if isinstance(node, ast.Constant):
        return constant_fault(node.value)
    if isinstance(node, ast.Compare):
        return is_fault(node)
    if isinstance(node, ast.ListComp):
        one = len(node.generators) == 1 and len(node.generators[0].ifs) <= 1
        return None if one else "L7"
    return statement_fault(node)


def defined(tree):
    """The names that a file defines itself, at its top."""
    names = [node.name for node in tree.body if isinstance(node, (ast.FunctionDef, ast.ClassDef))]
    given = [node for node in tree.body if isinstance(node, ast.Assign)]
    return names + [target.id for node in given for target in node.targets if isinstance(target, ast.Name)]


def drawn(tree):
    """The (module, name) pairs that a file imports."""
    return [(node.module, a.name) for node in tree.body if isinstance(node, ast.ImportFrom) for a in node.names]


def scope_faults(tree):
    """Faults of names that are bound twice at a file's top, or again within a def: L15."""
    top = defined(tree) + [name for module, name in drawn(tree)]
    kept = {name for module, name in drawn(tree)} | {n.name for n in tree.body if isinstance(n, ast.ClassDef)}
    inner = set()
    for node in ast.walk(tree):
        if isinstance(node, ast.FunctionDef):
            inner |= {n.arg for n in ast.walk(node) if isinstance(n, ast.arg)}
            inner |= {n.id for n in ast.walk(node) if isinstance(n, ast.Name) and isinstance(n.ctx, ast.Store)}
    return ["L15"] if len(set(top)) != len(top) or inner & kept else []


def drawing_faults(sources):
    """Faults of imports among files, handed in by their modules' names: L16."""
    trees = {module: ast.parse(source) for module, source in sources.items()}
    faults = []
    for tree in trees.values():
        if any(name not in defined(trees[module]) for module, name in drawn(tree) if module in trees):
            faults.append("L16")
    left = dict(trees)
    while left:
        free = [module for module, tree in left.items() if not {other for other, name in drawn(tree)} & set(left)]
        if not free:
            return faults + ["L16"]
        for module in free:
            del left[module]
    return faults


def object_names(trees):
    """The names of all methods, and those of all values that objects are given."""
    nodes = [node for tree in trees for node in ast.walk(tree)]
    classes = [node for node in nodes if isinstance(node, ast.ClassDef)]
    methods = {inner.name for node in classes for inner in node.body if isinstance(inner, ast.FunctionDef)}
    given = {node.attr for node in nodes if isinstance(node, ast.Attribute) and isinstance(node.ctx, ast.Store)}
    return methods, given


def object_faults(sources):
    """Faults of the names of methods and of objects' values, over all files: L18, L26."""
    methods, given = object_names([ast.parse(source) for source in sources])
    faults = ["L18"] if methods & given else []
    if given & (PYTHONS_OWN - set(FREE_VALUES)) or given & {"args", "sort", "encode", "format"}:
        faults.append("L26")
    return faults


def faults_of(source):
    """The rules that a file of the package, other than __main__.py, breaks."""
    tree = ast.parse(source)
    found = sign_faults(source) + top_faults(tree) + scope_faults(tree) + [node_fault(node) for node in ast.walk(tree)]
    return sorted({fault for fault in found if fault})


def package_files():
    """The (folder, name) of each file in the package, but for what Python itself leaves there."""
    found = []
    for folder, inner, names in os.walk(os.path.join(TOP, PACKAGE)):
        inner[:] = [name for name in inner if name != "__pycache__"]
        found.extend((folder, name) for name in sorted(names))
    return found


def read_source(folder, name):
    with open(os.path.join(folder, name), encoding="utf-8", newline="") as file:
        return file.read()


class ThePackage(unittest.TestCase):

    def test_its_files_are_here(self):
        names = [name for folder, name in package_files()]
        for name in ("__init__.py", "errors.py", "trees.py", "brackets.py", "words.py", "writing.py", "reading.py",
                     "stands.py", "rows.py", "runner.py", "putting.py", "selfrun.py", "counts.py", "knots.py",
                     "ends.py", "desk.py"):
            self.assertIn(name, names)

    def test_each_folder_is_a_package(self):
        for folder in sorted({folder for folder, name in package_files()}):
            self.assertTrue(os.path.isfile(os.path.join(folder, "__init__.py")), folder)

    def test_file_names(self):
        for folder, name in package_files():
            self.assertEqual(file_name_faults(name), [], name)

    def test_sources(self):
        for folder, name in package_files():
            if name != "__main__.py":
                self.assertEqual(faults_of(read_source(folder, name)), [], name)

    def test_objects(self):
        self.assertEqual(object_faults([read_source(folder, name) for folder, name in package_files()]), [])

    def test_drawing(self):
        sources = {PACKAGE + "." + name[:-3]: read_source(folder, name) for folder, name in package_files()}
        self.assertEqual(drawing_faults(sources), [])


class TheCheck(unittest.TestCase):
    """A check that sees nothing would pass the package, too."""

    def test_file_names(self):
        for name in ("Trees.py", "trees.txt", "a-b.py", "_a.py"):
            self.assertIn("L1", file_name_faults(name))
        for name in ("tests.py", "test_a.py", "site.py", "len.py", "enum.py"):
            self.assertIn("L14", file_name_faults(name))

    def test_good_source(self):
        good = ('"""Words."""\n\nfrom selfword.errors import NoTree\n\nROW = (1, "a")\n\n\n'
                'def f(a, b=2):\n    if a is None and b > 1:\n        raise NoTree()\n    return [x for x in a if x]\n')
        self.assertEqual(faults_of(good), [])

    def test_broken_rules(self):
        broken = (
            ("import os\n", "L2"),
            ("from os import path\n", "L2"),
            ("from .errors import NoTree\n", "L2"),
            ("from selfword.errors import *\n", "L2"),
            ("def f():\n    from selfword.errors import NoTree\n", "L2"),
            ("print(1)\n", "L3"),
            ("def f(*a):\n    pass\n", "L4"),
            ("class A:\n    b = 1\n", "L5"),
            ("def f():\n    with a:\n        pass\n", "L6/L7"),
            ("def f():\n    return {a for a in b}\n", "L6/L7"),
            ("def f():\n    a = b = 1\n", "L6"),
            ("def f():\n    for a in b:\n        pass\n    else:\n        pass\n", "L6"),
            ("def f():\n    return 1.5\n", "L7"),
            ("def f():\n    return [a for a in b for c in d]\n", "L7"),
            ("def f():\n    return map(a, b)\n", "L8"),
            ("def f():\n    return chr(9)\n", "L8"),
            ("def f():\n" + "    pass\n" * 40, "L10"),
            ("# a\n" * 401, "L10"),
            ("# " + "a" * 119 + "\n", "L10"),
            ("#\ta\n", "L10"),
            ("def f(unused_a, _a):\n    pass\n", "L12"),
            ("# \u00e4\n", "L14"),
            ("# a\r\n", "L14"),
            ("def f(hash):\n    pass\n", "L15"),
            ("def f():\n    len = 1\n", "L15"),
            ("from selfword.trees import first\n\n\ndef f(first):\n    pass\n", "L15"),
            ("from selfword.trees import first\n\n\ndef f():\n    first = 1\n", "L15"),
            ("A = 1\nA = 2\n", "L15"),
            ("A = 1\n\n\ndef A():\n    pass\n", "L15"),
            ("# the type\n", "L17"),
            ("# overloaded\n", "L17"),
            ("def f(a):\n    return id(a)\n", "L17"),
            ("def f():\n    try:\n        g()\n    except Exception:\n        pass\n", "L19"),
            ("def f(a, b):\n    return a is b\n", "L20"),
            ("def f(a):\n    return a is ()\n", "L20"),
            ("def f(a):\n    a.sort()\n", "L25"),
            ("def f(a):\n    return '%'\n", "L27"),
        )
        for source, rule in broken:
            with self.subTest(source[:60]):
                self.assertIn(rule, faults_of(source))

    def test_objects(self):
        one = "class A:\n    def __init__(self):\n        self.{} = 1\n"
        other = "class B:\n    def go(self):\n        pass\n"
        self.assertEqual(object_faults([one.format("going"), other]), [])
        self.assertEqual(object_faults([one.format("count"), other]), [])
        self.assertEqual(object_faults([one.format("go"), other]), ["L18"])
        for name in ("items", "pop", "sort", "args", "real"):
            self.assertEqual(object_faults([one.format(name), other]), ["L26"])

    def test_drawing(self):
        one = "from selfword.b import f\n\n\ndef g():\n    return f()\n"
        self.assertEqual(drawing_faults({"selfword.a": one, "selfword.b": "def f():\n    pass\n"}), [])
        for other in ("from selfword.c import f\n", "from selfword.a import g\n\n\ndef f():\n    pass\n", "A = 1\n"):
            sources = {"selfword.a": one, "selfword.b": other, "selfword.c": "def f():\n    pass\n"}
            self.assertIn("L16", drawing_faults(sources))
