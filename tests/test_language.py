"""The package's own files held against the rules of ../shared/LANGUAGE.md that a walk of the code can see."""

import ast
import re
import unittest
from pathlib import Path

ROOT = Path(__file__).resolve().parent.parent
PACKAGE = ROOT / "evenkin"

STATEMENTS = (ast.FunctionDef, ast.ClassDef, ast.ImportFrom, ast.Assign, ast.AugAssign, ast.If, ast.While, ast.For,
              ast.Return, ast.Break, ast.Continue, ast.Pass, ast.Raise, ast.Try, ast.Expr)
BANNED = (ast.Set, ast.SetComp, ast.DictComp, ast.GeneratorExp, ast.NamedExpr, ast.Starred, ast.Div, ast.MatMult,
          ast.Await, ast.Yield, ast.YieldFrom)
BUILTINS = """len range enumerate zip min max sum abs sorted reversed int str bool list tuple dict set frozenset
    isinstance ord repr any all divmod Exception ValueError TypeError KeyError IndexError LookupError
    ZeroDivisionError ArithmeticError OverflowError RuntimeError NotImplementedError AttributeError
    StopIteration""".split()
METHODS = """append clear copy count endswith extend find get index insert isalnum isalpha isdigit islower isspace
    isupper items join keys ljust lower lstrip partition pop remove replace reverse rfind rjust rpartition rsplit
    rstrip setdefault split splitlines startswith strip update upper values zfill bit_length""".split()
TWO_UNDERSCORES = ("__init__", "__eq__", "__repr__", "__str__", "__len__")
WORDS = """type typing typing_extensions enum Enum IntEnum StrEnum Flag IntFlag Generic Protocol ABC ABCMeta namedtuple
    NamedTuple TypedDict TYPE_CHECKING abstractmethod""".split()
PARTS = ("dataclass", "overload", "contextmanager")
LAZY = ("zip", "enumerate", "reversed", "range", "items", "keys", "values")
WALKERS = ("list", "tuple", "dict", "sorted", "sum", "any", "all", "enumerate", "zip", "min", "max", "join")


def check_text(text):
    for number, line in enumerate(text.split("\n"), start=1):
        if len(line) > 120:
            yield number, "L10 a line too long"
        if re.search(r"[^ -~]", line):
            yield number, "L14 a sign that is none"
        if set(re.findall(r"\w+", line)) & set(WORDS) or any(part in line for part in PARTS):
            yield number, "L17 a word that is not used"
    if text.count("\n") > 400:
        yield 401, "L10 a file too long"


def own_names(tree):
    names = []
    for node in ast.walk(tree):
        if isinstance(node, (ast.FunctionDef, ast.ClassDef)):
            names.append(node.name)
        if isinstance(node, ast.arg):
            names.append(node.arg)
        if isinstance(node, ast.Name) and isinstance(node.ctx, ast.Store):
            names.append(node.id)
        if isinstance(node, ast.ExceptHandler) and node.name:
            names.append(node.name)
        if isinstance(node, ast.ImportFrom):
            names += [alias.asname or alias.name for alias in node.names]
    return names


def check_names(tree, methods):
    own = own_names(tree)
    for name in own:
        if not re.fullmatch(r"[A-Za-z][A-Za-z0-9_]*", name) and name not in TWO_UNDERSCORES:
            yield 0, f"L12 the name {name}"
        if name in BUILTINS:
            yield 0, f"L15 the name {name} has a meaning of Python's own"
    for node in ast.walk(tree):
        if isinstance(node, ast.Name) and node.id not in own and node.id not in BUILTINS:
            yield node.lineno, f"L8 the name {node.id}"
        if isinstance(node, ast.Call) and isinstance(node.func, ast.Attribute):
            if node.func.attr not in METHODS and node.func.attr not in methods:
                yield node.lineno, f"L25 the method {node.func.attr}"


def local_names(node):
    inner = [part for part in ast.walk(node) if part is not node]
    stored = [part.id for part in inner if isinstance(part, ast.Name) and isinstance(part.ctx, ast.Store)]
    return stored + [part.arg for part in inner if isinstance(part, ast.arg)]


def check_locals(tree):
    imports = [alias.name for node in tree.body if isinstance(node, ast.ImportFrom) for alias in node.names]
    tops = imports + [node.name for node in tree.body if isinstance(node, ast.ClassDef)]
    for node in tree.body:
        if isinstance(node, (ast.FunctionDef, ast.ClassDef)):
            for name in set(local_names(node)) & set(tops):
                yield node.lineno, f"L15 a local {name} like an import or a class"


def called(node):
    if not isinstance(node, ast.Call):
        return None
    return node.func.id if isinstance(node.func, ast.Name) else getattr(node.func, "attr", None)


def check_walks(tree):
    walked = []
    for node in ast.walk(tree):
        if isinstance(node, (ast.For, ast.comprehension)):
            walked.append(node.iter)
        if called(node) in WALKERS:
            walked += node.args
    for node in ast.walk(tree):
        if called(node) in LAZY and node not in walked:
            yield node.lineno, "L23 kept, not walked"


KEYWORDS = {"sorted": ("key", "reverse"), "min": ("key", "default"), "max": ("key", "default"), "sum": ("start",),
            "enumerate": ("start",), "zip": ("strict",)}


def check_keywords(node):
    name = called(node)
    if name in BUILTINS or name in METHODS:
        for keyword in node.keywords:
            if keyword.arg not in KEYWORDS.get(name, ()):
                yield node.lineno, f"L22 the keyword {keyword.arg}"


def check_sets(tree):
    right = []
    for node in ast.walk(tree):
        if isinstance(node, ast.Compare):
            right += [node.left] + node.comparators
        if isinstance(node, ast.BinOp):
            right += [node.left, node.right]
        if called(node) in ("sorted", "len") and not node.keywords:
            right += node.args
    for node in ast.walk(tree):
        if called(node) in ("set", "frozenset") and node not in right:
            yield node.lineno, "L24 a set that is kept"


def check_errors(node):
    if isinstance(node, ast.ExceptHandler):
        names = [part.id for part in ast.walk(node.type) if isinstance(part, ast.Name)] if node.type else []
        if not names or set(names) & {"Exception", "TypeError"}:
            yield node.lineno, "L19 what is taken"
    if isinstance(node, ast.Raise) and not isinstance(node.exc, ast.Call):
        yield node.lineno, "L19 an error that is not made on the spot"


def values_of(trees):
    """The names of all values that objects are given."""
    nodes = [node for tree in trees for node in ast.walk(tree) if isinstance(node, ast.Attribute)]
    return [node.attr for node in nodes if isinstance(node.ctx, ast.Store)]


def names_of_pythons_own():
    free = ("count", "index", "title", "find", "get", "join", "lower", "upper", "split", "strip", "copy", "add")
    own = {name for kind in (str, int, list, dict, set, bytes, tuple) for name in dir(kind)}
    return own.difference(free) | {"args", "with_traceback", "add_note"}


def check_top(tree):
    for place, node in enumerate(tree.body):
        docstring = place == 0 and isinstance(node, ast.Expr) and isinstance(node.value, ast.Constant)
        if not docstring and not isinstance(node, (ast.ImportFrom, ast.FunctionDef, ast.ClassDef, ast.Assign)):
            yield node.lineno, "L3 at the top"
    for node in ast.walk(tree):
        if isinstance(node, ast.ImportFrom) and (node.level or not node.module.startswith("evenkin.")):
            yield node.lineno, "L2 an import"


def check_function(node):
    args = node.args
    if node.end_lineno - node.lineno + 1 > 40:
        yield node.lineno, "L10 a function too long"
    if node.decorator_list or args.vararg or args.kwarg or args.kwonlyargs or args.posonlyargs:
        yield node.lineno, "L4 a function's parameters"
    if node.returns or any(arg.annotation for arg in args.args):
        yield node.lineno, "L21 an annotation"


def check_class(node):
    plain = all(isinstance(part, (ast.FunctionDef, ast.Pass)) for part in node.body)
    if node.decorator_list or node.keywords or len(node.bases) > 1 or not plain:
        yield node.lineno, "L5 a class"


def check_statement(node, docstring):
    if not isinstance(node, STATEMENTS):
        yield node.lineno, "L6 a statement"
    if isinstance(node, ast.Expr) and not isinstance(node.value, ast.Call) and not docstring:
        yield node.lineno, "L6 a value by itself"
    if isinstance(node, ast.Assign) and len(node.targets) > 1:
        yield node.lineno, "L6 two targets"
    if isinstance(node, (ast.For, ast.While)) and node.orelse or isinstance(node, ast.Try) and node.finalbody:
        yield node.lineno, "L6 else behind a loop, or finally"


def check_expression(node):
    if isinstance(node, BANNED):
        yield getattr(node, "lineno", 0), "L7 an expression"
    if isinstance(node, ast.ListComp) and (len(node.generators) > 1 or len(node.generators[0].ifs) > 1):
        yield node.lineno, "L7 a comprehension"
    if isinstance(node, ast.Constant) and isinstance(node.value, (float, complex, bytes)):
        yield node.lineno, "L7 a value"
    if isinstance(node, ast.Constant) and isinstance(node.value, str) and "%" in node.value:
        yield node.lineno, "L27 a sign in a text"
    if isinstance(node, ast.FormattedValue) and (not isinstance(node.value, ast.Name) or node.format_spec):
        yield node.lineno, "L7 an f-string"
    if isinstance(node, ast.Compare):
        for sign, side in zip(node.ops, node.comparators):
            beside = isinstance(side, ast.Constant) and side.value in (None, True, False)
            if isinstance(sign, (ast.Is, ast.IsNot)) and not beside:
                yield node.lineno, "L20 is"
    if isinstance(node, ast.BinOp) and isinstance(node.op, ast.Pow):
        if not (isinstance(node.right, ast.Constant) and node.right.value in range(65)):
            yield node.lineno, "L27 a power"


def methods_of(trees):
    classes = [node for tree in trees for node in ast.walk(tree) if isinstance(node, ast.ClassDef)]
    return [part.name for node in classes for part in node.body if isinstance(part, ast.FunctionDef)]


def check_code(text, methods=()):
    tree = ast.parse(text)
    found = list(check_text(text)) + list(check_names(tree, methods)) + list(check_top(tree))
    found += list(check_locals(tree)) + list(check_walks(tree)) + list(check_sets(tree))
    for node in ast.walk(tree):
        if isinstance(node, ast.FunctionDef):
            found += check_function(node)
        if isinstance(node, ast.ClassDef):
            found += check_class(node)
        if isinstance(node, ast.stmt):
            found += check_statement(node, node is tree.body[0])
        found += list(check_expression(node)) + list(check_keywords(node)) + list(check_errors(node))
    return found


class Package(unittest.TestCase):
    def test_only_plain_files_lie_in_it(self):
        for path in PACKAGE.iterdir():
            if path.name != "__pycache__":
                self.assertTrue(path.is_file())
                self.assertRegex(path.name, r"\A([a-z][a-z0-9_]*|__init__)\.py\Z")

    def test_each_file_keeps_to_the_language(self):
        texts = {path: path.read_text(encoding="utf-8") for path in sorted(PACKAGE.glob("*.py"))}
        self.assertIn(PACKAGE / "__init__.py", texts)
        methods = methods_of([ast.parse(text) for text in texts.values()])
        for path, text in texts.items():
            with self.subTest(file=path.name):
                self.assertEqual(check_code(text, methods), [])

    def test_names_of_methods_and_values(self):
        trees = [ast.parse(path.read_text()) for path in PACKAGE.glob("*.py")]
        self.assertIn("place", values_of(trees))
        self.assertEqual(set(values_of(trees)) & set(methods_of(trees)), set())
        self.assertEqual(set(values_of(trees)) & names_of_pythons_own(), set())

    def test_no_two_files_draw_from_one_another(self):
        drawn = {}
        for path in PACKAGE.glob("*.py"):
            imports = [node for node in ast.parse(path.read_text()).body if isinstance(node, ast.ImportFrom)]
            drawn[f"evenkin.{path.stem}"] = [node.module for node in imports]
        while drawn:
            free = [name for name in drawn if not set(drawn[name]) & set(drawn)]
            self.assertTrue(free, f"a ring: {sorted(drawn)}")
            for name in free:
                drawn.pop(name)

    def test_each_import_is_drawn_from_the_file_that_defines_it(self):
        trees = {path.stem: ast.parse(path.read_text()) for path in PACKAGE.glob("*.py")}
        for tree in trees.values():
            for node in tree.body:
                if isinstance(node, ast.ImportFrom):
                    there = trees[node.module.removeprefix("evenkin.")]
                    defined = [part.name for part in there.body if isinstance(part, (ast.FunctionDef, ast.ClassDef))]
                    for alias in node.names:
                        self.assertIn(alias.name, defined)


class TheCheckItself(unittest.TestCase):
    def test_plain_code_is_let_by(self):
        self.assertEqual(check_code('"""Words."""\n\n\ndef f(x):\n    return [y for y in x if y is not None]\n'), [])

    def test_code_outside_is_found(self):
        for line in ("return x / 2", "return 1.5", "return {1}", "a = b = x", "del x", "assert x", "'words'",
                     "x.sort()", "return x is 3", "return 2 ** x", "return open(x)", "_y = x", "min = x",
                     "return [y for z in x for y in z]", "return set(y for y in x)", "return f'{x[0]}'", "global x",
                     "return 'x%'", "import math", "from .errors import NoWeb", "from math import gcd",
                     "return type(x)", "return x.format()", "while x:\n        x = 0\n    else:\n        pass"):
            with self.subTest(line=line):
                self.assertNotEqual(check_code(f"def f(x):\n    {line}\n"), [])

    def test_locals_like_imports_and_things_kept_unwalked_are_found(self):
        self.assertNotEqual(check_code("from evenkin.webs import web_of\n\n\ndef f(web_of):\n    return web_of\n"), [])
        for line in ("return zip(x, x)", "y = reversed(x)", "x.extend(range(3))", "return x.values()"):
            self.assertNotEqual(check_code(f"def f(x):\n    {line}\n"), [])
        for line in ("return list(zip(x, x))", "return tuple(x.values())", "return [y for y in range(x)]"):
            self.assertEqual(check_code(f"def f(x):\n    {line}\n"), [])

    def test_sets_keywords_errors_and_annotations_are_found(self):
        for line in ("y = set(x)", "return set(x)", "return sorted(set(x), key=len)", "return x.split(sep=' ')",
                     "return int(x, base=2)", "raise x", "try:\n        pass\n    except Exception:\n        pass",
                     "try:\n        pass\n    except:\n        pass"):
            with self.subTest(line=line):
                self.assertNotEqual(check_code(f"def f(x):\n    {line}\n"), [])
        self.assertNotEqual(check_code("def f(x: int):\n    return x\n"), [])
        for line in ("return sorted(set(x))", "return len(set(x) - set(x))", "return 1 in set(x)",
                     "return sorted(x, key=len)", "return set(x) == set(x)", "raise ValueError(x)"):
            self.assertEqual(check_code(f"def f(x):\n    {line}\n"), [])

    def test_long_functions_and_lines_are_found(self):
        self.assertNotEqual(check_code("def f(x):\n" + "    x = 1\n" * 40), [])
        self.assertNotEqual(check_code("x = '" + "y" * 120 + "'\n"), [])
        self.assertNotEqual(check_code("def f(x):\n\treturn x\n"), [])

    def test_classes_with_values_or_signs_of_other_kinds_are_found(self):
        self.assertNotEqual(check_code("class A:\n    x = 1\n"), [])
        self.assertNotEqual(check_code("x = '\u00e4'\n"), [])
        self.assertNotEqual(check_code("def f(*x):\n    return x\n"), [])
