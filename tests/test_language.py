"""The package's own files held against the rules of ../shared/LANGUAGE.md that a walk of the code can see."""

import ast
import re
import unittest
from pathlib import Path

ROOT = Path(__file__).resolve().parent.parent
PACKAGE = ROOT / "evenkin"

STATEMENTS = (ast.FunctionDef, ast.ClassDef, ast.ImportFrom, ast.Assign, ast.AugAssign, ast.If, ast.While, ast.For,
              ast.Return, ast.Break, ast.Continue, ast.Pass, ast.Raise, ast.Try, ast.Expr)
BANNED = (ast.Set, ast.SetComp, ast.DictComp, ast.GeneratorExp, ast.NamedExpr, ast.Starred, ast.Div, ast.MatMult,
          ast.Await, ast.Yield, ast.YieldFrom)
BUILTINS = """len range enumerate zip min max sum abs sorted reversed int str bool list tuple dict set frozenset
    isinstance ord repr any all divmod Exception ValueError TypeError KeyError IndexError LookupError
    ZeroDivisionError ArithmeticError OverflowError RuntimeError NotImplementedError AttributeError
    StopIteration""".split()
METHODS = """append clear copy count endswith extend find get index insert isalnum isalpha isdigit islower isspace
    isupper items join keys ljust lower lstrip partition pop remove replace reverse rfind rjust rpartition rsplit
    rstrip setdefault split splitlines startswith strip update upper values zfill bit_length""".split()
TWO_UNDERSCORES = ("__init__", "__eq__", "__repr__", "__str__", "__len__")
WORDS = """type typing typing_extensions enum Enum IntEnum StrEnum Flag IntFlag Generic Protocol ABC ABCMeta namedtuple
    NamedTuple TypedDict TYPE_CHECKING abstractmethod""".split()
PARTS = ("dataclass", "overload", "contextmanager")
LAZY = ("zip", "enumerate", "reversed", "range", "items", "keys", "values")
WALKERS = ("list", "tuple", "dict", "sorted", "sum", "any", "all", "enumerate", "zip", "min", "max", "join")


def check_text(text):
    for number, line in enumerate(text.split("\n"), start=1):
        if len(line) > 120:
            yield number, "L10 a line too long"
        if re.search(r"[^ -~]", line):
            yield number, "L14 a sign that is none"
        if set(re.findall(r"\w+", line)) & set(WORDS) or any(part in line for part in PARTS):
            yield number, "L17 a word that is not used"
    if text.count("\n") > 400:
        yield 401, "L10 a file too long"


def own_names(tree):
    names = []
    for node in ast.walk(tree):
        if isinstance(node, (ast.FunctionDef, ast.ClassDef)):
            names.append(node.name)
        if isinstance(node, ast.arg):
            names.append(node.arg)
        if isinstance(node, ast.Name) and isinstance(node.ctx, ast.Store):
            names.append(node.id)
        if isinstance(node, ast.ExceptHandler) and node.name:
            names.append(node.name)
        if isinstance(node, ast.ImportFrom):
            names += [alias.asname or alias.name for alias in node.names]
    return names


def check_names(tree, methods):
    own = own_names(tree)
    for name in own:
        if not re.fullmatch(r"[A-Za-z][A-Za-z0-9_]*", name) and name not in TWO_UNDERSCORES:
            yield 0, f"L12 the name {name}"
        if name in BUILTINS:
            yield 0, f"L15 the name {name} has a meaning of Python's own"
    for node in ast.walk(tree):
        if isinstance(node, ast.Name) and node.id not in own and node.id not in BUILTINS:
            yield node.lineno, f"L8 the name {node.id}"
        if isinstance(node, ast.Call) and isinstance(node.func, ast.Attribute):
            if node.func.attr not in METHODS and node.func.attr not in methods:
                yield node.lineno, f"L25 the method {node.func.attr}"


def local_names(node):
    inner = [part for part in ast.walk(node) if part is not node]
    stored = [part.id for part in inner if isinstance(part, ast.Name) and isinstance(part.ctx, ast.Store)]
    return stored + [part.arg for part in inner if isinstance(part, ast.arg)]


def check_locals(tree):
    imports = [alias.name for node in tree.body if isinstance(node, ast.ImportFrom) for alias in node.names]
    tops = imports + [node.name for node in tree.body if isinstance(node, ast.ClassDef)]
    for node in tree.body:
        if isinstance(node, (ast.FunctionDef, ast.ClassDef)):
            for name in set(local_names(node)) & set(tops):
                yield node.lineno, f"L15 a local {name} like an import or a class"


def called(node):
    if not isinstance(node, ast.Call):
        return None
    return node.func.id if isinstance(node.func, ast.Name) else getattr(node.func, "attr", None)


def check_walks(tree):
    walked = []
    for node in ast.walk(tree):
        if isinstance(node, (ast.For, ast.comprehension)):
            walked.append(node.iter)
        if called(node) in WALKERS:
            walked += node.args
    for node in ast.walk(tree):
        if called(node) in LAZY and node not in walked:
            yield node.lineno, "L23 kept, not walked"


KEYWORDS = {"sorted": ("key", "reverse"), "min": ("key", "default"), "max": ("key", "default"), "sum": ("start",),
            "enumerate": ("start",), "zip": ("strict",)}


def check_keywords(node):
    name = called(node)
    if name in BUILTINS or name in METHODS:
        for keyword in node.keywords:
            if keyword.arg not in KEYWORDS.get(name, ()):
                yield node.lineno, f"L22 the keyword {keyword.arg}"


def check_sets(tree):
    right = []
    for node in ast.walk(tree):
        if isinstance(node, ast.Compare):
            right += [node.left] + node.comparators
        if isinstance(node, ast.BinOp):
            right += [node.left, node.right]
        if called(node) in ("sorted", "len") and not node.keywords:
            right += node.args
    for node in ast.walk(tree):
        if called(node) in ("set", "frozenset") and node not in right:
            yield node.lineno, "L24 a set that is kept"


def check_errors(node):
    if isinstance(node, ast.ExceptHandler):
        names = [part.id for part in ast.walk(node.type) if isinstance(part, ast.Name)] if node.type else []
        if not names or set(names) & {"Exception", "TypeError"}:
            yield node.lineno, "L19 what is taken"
    if isinstance(node, ast.Raise) and not isinstance(node.exc, ast.Call):
        yield node.lineno, "L19 an error that is not made on the spot"


def values_of(trees):
    """The names of all values that objects are given."""
    nodes = [node for tree in trees for node in ast.walk(tree) if isinstance(node, ast.Attribute)]
    return [node.attr for node in nodes if isinstance(node.ctx, ast.Store)]


def names_of_pythons_own():
    free = ("count", "index", "title", "find", "get", "join", "lower", "upper", "split", "strip", "copy", "add")
    own = {name for kind in (str, int, list, dict, set, bytes, tuple) for name in dir(kind)}
    return own.difference(free) | {"args", "with_traceback", "add_note"}


def check_top(tree):
    for place, node in enumerate(tree.body):
        docstring = place == 0 and isinstance(node, ast.Expr) and isinstance(node.value, ast.Constant)
        if not docstring and not isinstance(node, (ast.ImportFrom, ast.FunctionDef, ast.ClassDef, ast.Assign)):
            yield node.lineno, "L3 at the top"
    for node in ast.walk(tree):
        if isinstance(node, ast.ImportFrom) and (node.level or not node.module.startswith("evenkin.")):
            yield node.lineno, "L2 an import"


def check_function(node):
    args = node.args
    if node.end_lineno - node.lineno + 1 > 40:
        yield node.lineno, "L10 a function too long"
    if node.decorator_list or args.vararg or args.kwarg or args.kwonlyargs or args.posonlyargs:
        yield node.lineno, "L4 a function's parameters"
    if node.returns or any(arg.annotation for arg in args.args):
        yield node.lineno, "L21 an annotation"


def check_class(node):
    plain = all(isinstance(part, (ast.FunctionDef, ast.Pass)) for part in node.body)
    if node.decorator_list or node.keywords or len(node.bases) > 1 or not plain:
        yield node.lineno, "L5 a class"


def check_statement(node, docstring):
    if not isinstance(node, STATEMENTS):
        yield node.lineno, "L6 a statement"
    if isinstance(node, ast.Expr) and not isinstance(node.value, ast.Call) and not docstring:
        yield node.lineno, "L6 a value by itself"
    if isinstance(node, ast.Assign) and len(node.targets) > 1:
        yield node.lineno, "L6 two targets"
    if isinstance(node, (ast.For, ast.While)) and node.orelse or isinstance(node, ast.Try) and node.finalbody:
        yield node.lineno, "L6 else behind a loop, or finally"


def check_expression(node):
    if isinstance(node, BANNED):
        yield getattr(node, "lineno", 0), "L7 an expression"
    if isinstance(node, ast.ListComp) and (len(node.generators) > 1 or len(node.generators[0].ifs) > 1):
        yield node.lineno, "L7 a comprehension"
    if isinstance(node, ast.Constant) and isinstance(node.value, (float, complex, bytes)):
        yield node.lineno, "L7 a value"
    if isinstance(node, ast.Constant) and isinstance(node.value, str) and "%" in node.value:
        yield node.lineno, "L27 a sign in a text"
    if isinstance(node, ast.FormattedValue) and (not isinstance(node.value, ast.Name) or node.format_spec):
        yield node.lineno, "L7 an f-string"
    if isinstance(node, ast.Compare):
        for sign, side in zip(node.ops, node.comparators):
            beside = isinstance(side, ast.Constant) and side.value in (None, True, False)
            if isinstance(sign, (ast.Is, ast.IsNot)) and not beside:
                yield node.lineno, "L20 is"
    if isinstance(node, ast.BinOp) and isinstance(node.op, ast.Pow):
        if not (isinstance(node.right, ast.Constant) and node.right.value in range(65)):
            yield node.lineno, "L27 a power"


PLAIN = (ast.Constant, ast.List, ast.Tuple, ast.Dict, ast.Name, ast.UnaryOp, ast.USub, ast.Load)
CHANGES = "append clear extend insert pop remove reverse setdefault update".split()
ERRORS = ("KeyError", "ZeroDivisionError", "StopIteration")
NOT_USED = """register mro elements open input version_info with_traceback add_note attrgetter breakpoint builtins
    compile copyright credits delattr dir eval exec exit gc getattr globals hasattr help id importlib license locals
    methodcaller os quit setattr super vars sys chr print""".split()


def with_parents(tree):
    """Every node with the one that it stands in."""
    return [(child, node) for node in ast.walk(tree) for child in ast.iter_child_nodes(node)]


def check_top_values(tree):
    bound = []
    for node in tree.body:
        if isinstance(node, ast.Assign):
            if not all(isinstance(part, PLAIN) for part in ast.walk(node.value)):
                yield node.lineno, "L3 a value that is not plain"
            if any(isinstance(part, ast.Name) and part.id not in bound for part in ast.walk(node.value)):
                yield node.lineno, "L3 a name that is not defined above"
            inner = [part for part in ast.walk(node.value) if isinstance(part, (ast.List, ast.Dict))]
            if [part for part in inner if part is not node.value]:
                yield node.lineno, "L15 a list or dict within another"
            bound += [target.id for target in node.targets if isinstance(target, ast.Name)]
        elif isinstance(node, (ast.FunctionDef, ast.ClassDef)):
            bound.append(node.name)
        elif isinstance(node, ast.ImportFrom):
            if [alias for alias in node.names if alias.asname or alias.name == "*"]:
                yield node.lineno, "L2 an import"
    for name in bound:
        if bound.count(name) > 1:
            yield 0, f"L15 the name {name} bound twice"


def top_lists(tree):
    return [target.id for node in tree.body if isinstance(node, ast.Assign) for target in node.targets
            if isinstance(node.value, (ast.List, ast.Dict))]


def check_top_lists_are_read_alone(tree):
    tops = top_lists(tree)
    parents = with_parents(tree)
    for child, parent in parents:
        if isinstance(child, ast.Name) and child.id in tops and isinstance(child.ctx, ast.Load):
            read = isinstance(parent, (ast.Compare, ast.comprehension))
            read = read or isinstance(parent, ast.Subscript) and isinstance(parent.ctx, ast.Load)
            read = read or isinstance(parent, ast.For) and parent.iter is child
            read = read or isinstance(parent, ast.Attribute) and parent.attr in ("get", "items", "keys", "values")
            read = read or called(parent) in ("len", "list", "dict", "sorted", "tuple")
            if not read:
                yield child.lineno, f"L15 {child.id} is not only read"


def check_things_kept(tree):
    classes = [node.name for node in tree.body if isinstance(node, ast.ClassDef)]
    for child, parent in with_parents(tree):
        is_called = isinstance(parent, ast.Call) and parent.func is child
        if isinstance(child, ast.Name) and child.id in BUILTINS and not is_called:
            right = isinstance(parent, (ast.ExceptHandler, ast.ClassDef, ast.keyword))
            inside = isinstance(parent, ast.Tuple) or called(parent) == "isinstance"
            if not right and not inside:
                yield child.lineno, f"L22 {child.id} kept as a value"
        if isinstance(child, ast.Name) and child.id in classes and isinstance(child.ctx, ast.Load) and not is_called:
            if not isinstance(parent, (ast.ClassDef, ast.ExceptHandler, ast.Attribute)):
                yield child.lineno, f"L18 the class {child.id} kept as a value"
        if isinstance(child, ast.Attribute) and child.attr in METHODS and isinstance(child.ctx, ast.Load):
            if not is_called and not isinstance(parent, ast.keyword):
                yield child.lineno, f"L25 the method {child.attr} not called where it stands"
        if isinstance(child, (ast.Name, ast.Attribute)):
            name = child.id if isinstance(child, ast.Name) else child.attr
            if name in NOT_USED:
                yield child.lineno, f"L17 the name {name}"


def walked_name(node):
    """What a loop walks, itself or through enumerate and its like, as it is written."""
    while isinstance(node, ast.Call) and called(node) in ("enumerate", "zip", "reversed", "items", "keys", "values"):
        node = node.args[0] if node.args else node.func.value
    return ast.unparse(node)


def check_loops(tree):
    for loop in ast.walk(tree):
        if isinstance(loop, ast.For):
            walked = walked_name(loop.iter)
            for node in [part for line in loop.body for part in ast.walk(line)]:
                if isinstance(node, ast.Call) and isinstance(node.func, ast.Attribute) and node.func.attr in CHANGES:
                    if ast.unparse(node.func.value) == walked:
                        yield node.lineno, "L23 what a loop walks is changed"
                if isinstance(node, ast.Subscript) and isinstance(node.ctx, ast.Store):
                    if ast.unparse(node.value) == walked:
                        yield node.lineno, "L23 what a loop walks is changed"


def check_taken(tree, refusals):
    for node in ast.walk(tree):
        if isinstance(node, ast.ExceptHandler) and node.type is not None:
            for part in ast.walk(node.type):
                if isinstance(part, ast.Name) and part.id not in refusals and part.id not in ERRORS:
                    yield node.lineno, f"L19 {part.id} is taken"
        if isinstance(node, ast.Raise) and not isinstance(node.cause, (type(None), ast.Name, ast.Constant)):
            yield node.lineno, "L19 from what is raised"


def check_methods(tree):
    for node in ast.walk(tree):
        if isinstance(node, ast.ClassDef):
            names = [part.name for part in node.body if isinstance(part, ast.FunctionDef)]
            if len(set(names)) != len(names):
                yield node.lineno, "L18 a method twice"
        if isinstance(node, ast.FunctionDef) and node.name == "__init__":
            if any(isinstance(part, ast.Return) for part in ast.walk(node)):
                yield node.lineno, "L28 __init__ gives something back"
        if isinstance(node, ast.FunctionDef) and not all(isinstance(part, PLAIN) for part in node.args.defaults):
            yield node.lineno, "L4 a default that is not plain"


def check_more(text, refusals=()):
    tree = ast.parse(text)
    found = list(check_top_values(tree)) + list(check_top_lists_are_read_alone(tree)) + list(check_things_kept(tree))
    return found + list(check_loops(tree)) + list(check_taken(tree, refusals)) + list(check_methods(tree))


def methods_of(trees):
    classes = [node for tree in trees for node in ast.walk(tree) if isinstance(node, ast.ClassDef)]
    return [part.name for node in classes for part in node.body if isinstance(part, ast.FunctionDef)]


def check_code(text, methods=()):
    tree = ast.parse(text)
    found = list(check_text(text)) + list(check_names(tree, methods)) + list(check_top(tree))
    found += list(check_locals(tree)) + list(check_walks(tree)) + list(check_sets(tree))
    for node in ast.walk(tree):
        if isinstance(node, ast.FunctionDef):
            found += check_function(node)
        if isinstance(node, ast.ClassDef):
            found += check_class(node)
        if isinstance(node, ast.stmt):
            found += check_statement(node, node is tree.body[0])
        found += list(check_expression(node)) + list(check_keywords(node)) + list(check_errors(node))
    return found


class Package(unittest.TestCase):
    def test_only_plain_files_lie_in_it(self):
        for path in PACKAGE.iterdir():
            if path.name != "__pycache__":
                self.assertTrue(path.is_file())
                self.assertRegex(path.name, r"\A([a-z][a-z0-9_]*|__init__)\.py\Z")

    def test_each_file_keeps_to_the_language(self):
        texts = {path: path.read_text(encoding="utf-8") for path in sorted(PACKAGE.glob("*.py"))}
        self.assertIn(PACKAGE / "__init__.py", texts)
        methods = methods_of([ast.parse(text) for text in texts.values()])
        for path, text in texts.items():
            with self.subTest(file=path.name):
                self.assertEqual(check_code(text, methods), [])
                self.assertEqual(check_more(text, ("KinError", "NoWeb", "NoStep", "NoOrder", "NoText")), [])

    def test_names_of_methods_and_values(self):
        trees = [ast.parse(path.read_text()) for path in PACKAGE.glob("*.py")]
        self.assertIn("place", values_of(trees))
        self.assertEqual(set(values_of(trees)) & set(methods_of(trees)), set())
        self.assertEqual(set(values_of(trees)) & names_of_pythons_own(), set())

    def test_no_two_files_draw_from_one_another(self):
        drawn = {}
        for path in PACKAGE.glob("*.py"):
            imports = [node for node in ast.parse(path.read_text()).body if isinstance(node, ast.ImportFrom)]
            drawn[f"evenkin.{path.stem}"] = [node.module for node in imports]
        while drawn:
            free = [name for name in drawn if not set(drawn[name]) & set(drawn)]
            self.assertTrue(free, f"a ring: {sorted(drawn)}")
            for name in free:
                drawn.pop(name)

    def test_each_import_is_drawn_from_the_file_that_defines_it(self):
        trees = {path.stem: ast.parse(path.read_text()) for path in PACKAGE.glob("*.py")}
        for tree in trees.values():
            for node in tree.body:
                if isinstance(node, ast.ImportFrom):
                    there = trees[node.module.removeprefix("evenkin.")]
                    defined = [part.name for part in there.body if isinstance(part, (ast.FunctionDef, ast.ClassDef))]
                    for alias in node.names:
                        self.assertIn(alias.name, defined)


class TheCheckItself(unittest.TestCase):
    def test_plain_code_is_let_by(self):
        self.assertEqual(check_code('"""Words."""\n\n\ndef f(x):\n    return [y for y in x if y is not None]\n'), [])

    def test_code_outside_is_found(self):
        for line in ("return x / 2", "return 1.5", "return {1}", "a = b = x", "del x", "assert x", "'words'",
                     "x.sort()", "return x is 3", "return 2 ** x", "return open(x)", "_y = x", "min = x",
                     "return [y for z in x for y in z]", "return set(y for y in x)", "return f'{x[0]}'", "global x",
                     "return 'x%'", "import math", "from .errors import NoWeb", "from math import gcd",
                     "return type(x)", "return x.format()", "while x:\n        x = 0\n    else:\n        pass"):
            with self.subTest(line=line):
                self.assertNotEqual(check_code(f"def f(x):\n    {line}\n"), [])

    def test_locals_like_imports_and_things_kept_unwalked_are_found(self):
        self.assertNotEqual(check_code("from evenkin.webs import web_of\n\n\ndef f(web_of):\n    return web_of\n"), [])
        for line in ("return zip(x, x)", "y = reversed(x)", "x.extend(range(3))", "return x.values()"):
            self.assertNotEqual(check_code(f"def f(x):\n    {line}\n"), [])
        for line in ("return list(zip(x, x))", "return tuple(x.values())", "return [y for y in range(x)]"):
            self.assertEqual(check_code(f"def f(x):\n    {line}\n"), [])

    def test_sets_keywords_errors_and_annotations_are_found(self):
        for line in ("y = set(x)", "return set(x)", "return sorted(set(x), key=len)", "return x.split(sep=' ')",
                     "return int(x, base=2)", "raise x", "try:\n        pass\n    except Exception:\n        pass",
                     "try:\n        pass\n    except:\n        pass"):
            with self.subTest(line=line):
                self.assertNotEqual(check_code(f"def f(x):\n    {line}\n"), [])
        self.assertNotEqual(check_code("def f(x: int):\n    return x\n"), [])
        for line in ("return sorted(set(x))", "return len(set(x) - set(x))", "return 1 in set(x)",
                     "return sorted(x, key=len)", "return set(x) == set(x)", "raise ValueError(x)"):
            self.assertEqual(check_code(f"def f(x):\n    {line}\n"), [])

    def test_values_of_the_top_that_are_not_plain_or_not_only_read_are_found(self):
        for top in ("X = len('a')", "X = [[1]]", "X = {'a': {}}", "X = Y", "X = 1\nX = 2", "X = 1 + 1"):
            self.assertNotEqual(check_more(top + "\n"), [], top)
        for top in ("X = [1, -2]", "X = {'a': (1, 2)}", "X = 'a'", "def f():\n    return 1\n\n\nX = {'a': f}"):
            self.assertEqual(check_more(top + "\n"), [], top)
        for line in ("X.append(1)", "X[0] = 1", "return X", "return f(X)", "y = X"):
            self.assertNotEqual(check_more(f"X = [1]\n\n\ndef f(x):\n    {line}\n"), [], line)
        for line in ("return X[0]", "return x in X", "return [y for y in X]", "return list(X)", "return len(X)"):
            self.assertEqual(check_more(f"X = [1]\n\n\ndef f(x):\n    {line}\n"), [], line)

    def test_things_kept_or_changed_while_they_are_walked_are_found(self):
        for line in ("y = len", "return [len]", "y = x.append", "return f(x.get)", "return x.mro", "return chr(x)",
                     "for y in x:\n        x.append(y)", "for y, z in enumerate(x):\n        x[y] = z",
                     "for y in x.items():\n        x.pop(y)",
                     "try:\n        f(x)\n    except ValueError:\n        pass"):
            self.assertNotEqual(check_more(f"def f(x):\n    {line}\n"), [], line)
        for line in ("return sorted(x, key=len)", "return isinstance(x, str)", "return isinstance(x, (int, str))",
                     "for y in x:\n        f(y)", "for y in list(x):\n        x.pop(y)",
                     "try:\n        f(x)\n    except KeyError:\n        pass"):
            self.assertEqual(check_more(f"def f(x):\n    {line}\n"), [], line)
        for body in ("def f(self):\n        return A", "def f(self):\n        pass\n\n    def f(self):\n        pass",
                     "def __init__(self):\n        return None"):
            self.assertNotEqual(check_more(f"class A:\n    {body}\n"), [], body)

    def test_long_functions_and_lines_are_found(self):
        self.assertNotEqual(check_code("def f(x):\n" + "    x = 1\n" * 40), [])
        self.assertNotEqual(check_code("x = '" + "y" * 120 + "'\n"), [])
        self.assertNotEqual(check_code("def f(x):\n\treturn x\n"), [])

    def test_classes_with_values_or_signs_of_other_kinds_are_found(self):
        self.assertNotEqual(check_code("class A:\n    x = 1\n"), [])
        self.assertNotEqual(check_code("x = '\u00e4'\n"), [])
        self.assertNotEqual(check_code("def f(*x):\n    return x\n"), [])
