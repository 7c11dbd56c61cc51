"""The package keeps to the part of Python that it is written in, as far as its files show it rule by rule."""

import ast
import pathlib
import re
import unittest

PACKAGE = pathlib.Path(__file__).resolve().parent.parent / "twobooks"
FILES = sorted(path for path in PACKAGE.rglob("*") if "__pycache__" not in path.parts and path.is_file())

STATEMENTS = (
    ast.Assign, ast.AugAssign, ast.If, ast.While, ast.For, ast.Return, ast.Break, ast.Continue, ast.Pass, ast.Raise,
    ast.Try, ast.Expr, ast.FunctionDef, ast.ClassDef, ast.ImportFrom)
EXPRESSIONS = (
    ast.Constant, ast.List, ast.Tuple, ast.Dict, ast.Set, ast.BinOp, ast.UnaryOp, ast.Compare, ast.BoolOp, ast.IfExp,
    ast.Call, ast.Attribute, ast.Subscript, ast.Slice, ast.ListComp, ast.JoinedStr, ast.FormattedValue, ast.Name,
    ast.Lambda)
BUILT_IN = set("""
    len range enumerate zip min max sum abs sorted reversed int str bool list tuple dict set frozenset isinstance ord
    repr any all divmod Exception ValueError TypeError KeyError IndexError LookupError ZeroDivisionError ArithmeticError
    OverflowError RuntimeError NotImplementedError AttributeError StopIteration""".split())
METHODS = set("""
    append clear copy count endswith extend find get index insert isalnum isalpha isdigit islower isspace isupper items
    join keys ljust lower lstrip partition pop remove replace reverse rfind rjust rpartition rsplit rstrip setdefault
    split splitlines startswith strip update upper values zfill bit_length""".split())
UNUSED_NAMES = set("""
    register mro elements open input version_info with_traceback add_note attrgetter breakpoint builtins compile
    copyright credits delattr dir eval exec exit gc getattr globals hasattr help id importlib license locals
    methodcaller os quit setattr super type vars sys format format_map""".split())
UNUSED_WORDS = re.compile(
    r"\b(type|typing|typing_extensions|enum|Enum|IntEnum|StrEnum|Flag|IntFlag|Generic|Protocol|ABC|ABCMeta|namedtuple"
    r"|NamedTuple|TypedDict|TYPE_CHECKING|abstractmethod)\b|dataclass|overload|contextmanager")
TWO_UNDERSCORES = ("__init__", "__eq__", "__repr__", "__str__", "__len__")


WALKERS = ("zip", "enumerate", "reversed", "range")
WALKED_METHODS = ("items", "keys", "values")
WALKED_IN = ("list", "tuple", "dict", "sorted", "sum", "any", "all", "enumerate", "zip", "min", "max")


def module_of(path):
    return ".".join(path.relative_to(PACKAGE.parent).with_suffix("").parts)


def bound_at_top(tree):
    names = []
    for node in tree.body:
        if isinstance(node, (ast.FunctionDef, ast.ClassDef)):
            names.append(node.name)
        if isinstance(node, ast.Assign):
            names += [target.id for target in node.targets]
    return names


class Language(unittest.TestCase):

    def setUp(self):
        self.texts = {path: path.read_text(encoding="utf-8") for path in FILES}
        self.trees = {path: ast.parse(text) for path, text in self.texts.items()}
        self.nodes = [(path, node) for path, tree in self.trees.items() for node in ast.walk(tree)]

    def where(self, path, node):
        return f"{path.name}:{getattr(node, 'lineno', '?')}"

    def test_files(self):
        self.assertIn(PACKAGE / "__init__.py", FILES)
        self.assertIn(PACKAGE / "merge.py", FILES)
        for path in FILES:
            self.assertRegex(path.name, r"^([a-z][a-z0-9_]*|__init__)\.py$")

    def test_size_and_signs(self):
        for path, text in self.texts.items():
            self.assertLessEqual(len(text.splitlines()), 400, path)
            for number, line in enumerate(text.split("\n"), start=1):
                self.assertLessEqual(len(line), 120, f"{path}:{number}")
                self.assertRegex(line, r"^[ -~]*$", f"{path}:{number}")
            self.assertIsNone(UNUSED_WORDS.search(text), path)

    def test_functions(self):
        for path, node in self.nodes:
            if isinstance(node, ast.FunctionDef):
                self.assertLessEqual(node.end_lineno - node.lineno + 1, 40, self.where(path, node))
                self.assertEqual(node.decorator_list, [], self.where(path, node))
            if isinstance(node, ast.arguments):
                self.assertFalse(node.vararg or node.kwarg or node.kwonlyargs or node.posonlyargs, path)

    def test_statements_and_expressions(self):
        for path, node in self.nodes:
            if isinstance(node, ast.stmt):
                self.assertIsInstance(node, STATEMENTS, self.where(path, node))
            if isinstance(node, ast.expr):
                self.assertIsInstance(node, EXPRESSIONS, self.where(path, node))
            if isinstance(node, ast.Assign):
                self.assertEqual(len(node.targets), 1, self.where(path, node))
                self.assertNotIsInstance(node.targets[0], (ast.Tuple, ast.List), self.where(path, node))
            if isinstance(node, (ast.For, ast.While)):
                self.assertEqual(node.orelse, [], self.where(path, node))
            if isinstance(node, ast.Try):
                self.assertEqual(node.finalbody, [], self.where(path, node))
            if isinstance(node, ast.Expr) and not isinstance(node.value, ast.Constant):
                self.assertIsInstance(node.value, ast.Call, self.where(path, node))
            if isinstance(node, ast.Constant):
                self.assertIsInstance(node.value, (int, str, bool, type(None)), self.where(path, node))
            if isinstance(node, ast.ListComp):
                self.assertEqual(len(node.generators), 1, self.where(path, node))
                self.assertLessEqual(len(node.generators[0].ifs), 1, self.where(path, node))
            self.assertNotIsInstance(node, (ast.Div, ast.MatMult), path)

    def test_is_stands_beside_plain_values_alone(self):
        for path, node in self.nodes:
            if isinstance(node, ast.Compare) and any(isinstance(one, (ast.Is, ast.IsNot)) for one in node.ops):
                beside = [one for one in [node.left] + node.comparators if isinstance(one, ast.Constant)]
                self.assertTrue(any(one.value in (None, True, False) for one in beside), self.where(path, node))

    def test_walked_at_once(self):
        walked = []
        for path, node in self.nodes:
            if isinstance(node, (ast.For, ast.comprehension)):
                walked.append(node.iter)
            if isinstance(node, ast.Call) and isinstance(node.func, ast.Name) and node.func.id in WALKED_IN:
                walked += node.args[:1]
        for path, node in self.nodes:
            if isinstance(node, ast.Call):
                name = node.func.id if isinstance(node.func, ast.Name) else ""
                method = node.func.attr if isinstance(node.func, ast.Attribute) else ""
                if name in WALKERS or method in WALKED_METHODS:
                    self.assertIn(node, walked, self.where(path, node))

    def test_what_a_loop_walks_is_not_changed_in_it(self):
        changing = ("append", "clear", "extend", "insert", "pop", "remove", "reverse", "setdefault", "update")
        for path, loop in self.nodes:
            if not isinstance(loop, ast.For):
                continue
            walked = [ast.unparse(node) for node in ast.walk(loop.iter) if isinstance(node, (ast.Name, ast.Attribute))]
            for node in [inner for statement in loop.body for inner in ast.walk(statement)]:
                if isinstance(node, ast.Call) and isinstance(node.func, ast.Attribute) and node.func.attr in changing:
                    self.assertNotIn(ast.unparse(node.func.value), walked, self.where(path, node))
                if isinstance(node, ast.Subscript) and isinstance(node.ctx, ast.Store):
                    self.assertNotIn(ast.unparse(node.value), walked, self.where(path, node))

    def test_top_of_files(self):
        for path, tree in self.trees.items():
            self.assertTrue(ast.get_docstring(tree), path)
            names = bound_at_top(tree)
            self.assertEqual(len(names), len(set(names)), path)
            for node in tree.body[1:]:
                self.assertIsInstance(
                    node, (ast.ImportFrom, ast.Assign, ast.FunctionDef, ast.ClassDef), self.where(path, node))
                if isinstance(node, ast.Assign):
                    ast.literal_eval(node.value)

    def test_imports(self):
        bound = {module_of(path): bound_at_top(tree) for path, tree in self.trees.items()}
        drawn = {}
        for path, tree in self.trees.items():
            drawn[module_of(path)] = []
            for node in ast.walk(tree):
                if isinstance(node, ast.ImportFrom):
                    self.assertIn(node, tree.body, self.where(path, node))
                    self.assertEqual(node.level, 0, self.where(path, node))
                    for name in node.names:
                        self.assertIn(name.name, bound[node.module], self.where(path, node))
                        self.assertIsNone(name.asname, self.where(path, node))
                    drawn[module_of(path)].append(node.module)
        while drawn:
            free = [module for module, sources in drawn.items() if not any(one in drawn for one in sources)]
            self.assertTrue(free, f"these draw from one another: {sorted(drawn)}")
            for module in free:
                drawn.pop(module)

    def test_names(self):
        for path, tree in self.trees.items():
            imported = [name.name for node in tree.body if isinstance(node, ast.ImportFrom) for name in node.names]
            classes = [node.name for node in tree.body if isinstance(node, ast.ClassDef)]
            top = imported + bound_at_top(tree)
            stored = [node.id for node in ast.walk(tree)
                      if isinstance(node, ast.Name) and isinstance(node.ctx, ast.Store)]
            arguments = [node.arg for node in ast.walk(tree) if isinstance(node, ast.arg)]
            defs = [node.name for node in ast.walk(tree) if isinstance(node, (ast.FunctionDef, ast.ClassDef))]
            own = vars(__builtins__) if not isinstance(__builtins__, dict) else __builtins__
            for name in stored + arguments:
                self.assertNotIn(name, imported + classes, path)
            for name in stored + arguments + defs:
                self.assertNotIn(name, own, path)
                self.assertNotIn(name, UNUSED_NAMES, path)
                if name not in TWO_UNDERSCORES:
                    self.assertRegex(name, r"^[A-Za-z][A-Za-z0-9_]*$", path)
            known = set(top) | set(stored) | set(arguments) | set(defs) | BUILT_IN
            for node in ast.walk(tree):
                if isinstance(node, ast.Name) and isinstance(node.ctx, ast.Load):
                    self.assertIn(node.id, known, self.where(path, node))

    def test_methods_and_values(self):
        methods = []
        for path, node in self.nodes:
            if isinstance(node, ast.ClassDef):
                methods += [inner.name for inner in node.body if isinstance(inner, ast.FunctionDef)]
        for name in methods:
            if name.startswith("__"):
                self.assertIn(name, TWO_UNDERSCORES)
        called = [(path, node.func) for path, node in self.nodes
                  if isinstance(node, ast.Call) and isinstance(node.func, ast.Attribute)]
        for path, node in called:
            self.assertIn(node.attr, METHODS | set(methods), self.where(path, node))
        for path, node in self.nodes:
            if isinstance(node, ast.Attribute):
                self.assertNotIn(node.attr, UNUSED_NAMES, self.where(path, node))
                if isinstance(node.ctx, ast.Store):
                    self.assertNotIn(node.attr, methods, self.where(path, node))
                    for plain in (str, int, list, dict, set, bytes):
                        self.assertFalse(hasattr(plain, node.attr), self.where(path, node))
