"""The package keeps to the small part of Python it is written in: the rules of its form that can be read off."""

import ast
import builtins
import os
import re
import unittest

FOLDER = os.path.join(os.path.dirname(os.path.dirname(os.path.abspath(__file__))), "whence")

STATEMENTS = (ast.Assign, ast.AugAssign, ast.If, ast.While, ast.For, ast.Return, ast.Break, ast.Continue, ast.Pass,
              ast.Raise, ast.Try, ast.Expr, ast.FunctionDef)
EXPRESSIONS = (ast.Constant, ast.List, ast.Tuple, ast.Dict, ast.BinOp, ast.UnaryOp, ast.BoolOp, ast.Compare, ast.IfExp,
               ast.Call, ast.Attribute, ast.Subscript, ast.Slice, ast.ListComp, ast.JoinedStr, ast.FormattedValue,
               ast.Name, ast.Lambda, ast.Set)
OWN_NAMES = """len range enumerate zip min max sum abs sorted reversed int str bool list tuple dict set frozenset
    isinstance ord repr any all divmod Exception ValueError TypeError KeyError IndexError LookupError
    ZeroDivisionError ArithmeticError OverflowError RuntimeError NotImplementedError AttributeError
    StopIteration""".split()
METHODS = """append clear copy count endswith extend find get index insert isalnum isalpha isdigit islower isspace
    isupper items join keys ljust lower lstrip partition pop remove replace reverse rfind rjust rpartition rsplit
    rstrip setdefault split splitlines startswith strip update upper values zfill bit_length""".split()
WORDS = """type typing typing_extensions enum Enum IntEnum StrEnum Flag IntFlag Generic Protocol ABC ABCMeta
    namedtuple NamedTuple TypedDict TYPE_CHECKING abstractmethod""".split()
WALKED = ("zip", "enumerate", "reversed", "range")
WALKERS = ("list", "tuple", "dict", "sorted", "sum", "any", "all", "enumerate", "zip", "min", "max", "join")
DUNDERS = ("__init__", "__eq__", "__repr__", "__str__", "__len__")


def files():
    return sorted([name for name in os.listdir(FOLDER) if name != "__pycache__"])


def text_of(name):
    with open(os.path.join(FOLDER, name), encoding="utf-8", newline="") as file:
        return file.read()


def nodes_of(name, *kinds):
    return [node for node in ast.walk(ast.parse(text_of(name))) if isinstance(node, kinds)]


def parents_of(tree):
    return {child: node for node in ast.walk(tree) for child in ast.iter_child_nodes(node)}


def called(node):
    if not isinstance(node, ast.Call):
        return None
    return node.func.id if isinstance(node.func, ast.Name) else node.func.attr


def drawn_from(name):
    return [node.module.split(".")[1] + ".py" for node in nodes_of(name, ast.ImportFrom) if "." in node.module]


class Form(unittest.TestCase):
    def each(self, *kinds):
        for name in files():
            for node in nodes_of(name, *kinds):
                yield node, f"{name}:{getattr(node, 'lineno', 0)}"

    def test_files_and_signs(self):
        self.assertIn("__init__.py", files())
        for name in files():
            self.assertTrue(re.fullmatch(r"[a-z][a-z0-9_]*\.py|__init__\.py", name), name)
            text = text_of(name)
            self.assertTrue(re.fullmatch(r"[ -~\n]*", text), name)
            self.assertLessEqual(len(text.splitlines()), 400, name)
            for word in re.findall(r"\w+", text):
                self.assertNotIn(word, WORDS, name)
                self.assertFalse(re.search("dataclass|overload|contextmanager", word), name)
            for row in text.splitlines():
                self.assertLessEqual(len(row), 120, (name, row))

    def test_tops(self):
        for name in files():
            body = ast.parse(text_of(name)).body
            self.assertTrue(isinstance(body[0], ast.Expr) and isinstance(body[0].value, ast.Constant), name)
            for node in body[1:]:
                self.assertIsInstance(node, (ast.ImportFrom, ast.FunctionDef, ast.ClassDef, ast.Assign), name)
            bound = [node.name for node in body if isinstance(node, (ast.FunctionDef, ast.ClassDef))]
            self.assertEqual(len(bound), len(set(bound)), name)

    def test_imports(self):
        self.assertEqual([place for node, place in self.each(ast.Import)], [])
        for node, place in self.each(ast.ImportFrom):
            self.assertTrue(node.level == 0 and node.module.startswith("whence."), place)
            home = ast.parse(text_of(node.module.split(".")[1] + ".py")).body
            defined = [part.name for part in home if isinstance(part, (ast.FunctionDef, ast.ClassDef))]
            defined += [part.targets[0].id for part in home if isinstance(part, ast.Assign)]
            for part in node.names:
                self.assertIsNone(part.asname, place)
                self.assertIn(part.name, defined, place)

    def test_no_two_files_draw_from_one_another(self):
        for name in files():
            reached, ahead = [], drawn_from(name)
            while ahead:
                other = ahead.pop()
                if other not in reached:
                    reached.append(other)
                    ahead.extend(drawn_from(other))
            self.assertNotIn(name, reached)

    def test_imports_are_used(self):
        for name in files():
            used = [node.id for node in nodes_of(name, ast.Name)]
            for node in nodes_of(name, ast.ImportFrom):
                for part in node.names:
                    self.assertIn(part.name, used, name)

    def test_defs(self):
        for node, place in self.each(ast.FunctionDef):
            self.assertLessEqual(node.end_lineno - node.lineno + 1, 40, place)
            self.assertEqual(node.decorator_list, [], place)
            args = node.args
            self.assertFalse(args.vararg or args.kwarg or args.kwonlyargs or args.posonlyargs, place)
            self.assertIsNone(node.returns, place)
            self.assertTrue(node.name in DUNDERS or not node.name.startswith("_"), place)
        for node, place in self.each(ast.arg):
            self.assertIsNone(node.annotation, place)
            self.assertFalse(node.arg.startswith("_") or hasattr(builtins, node.arg), place)

    def test_classes(self):
        methods, values = [], []
        for node, place in self.each(ast.ClassDef):
            self.assertLessEqual(len(node.bases), 1, place)
            self.assertEqual(node.decorator_list + node.keywords, [], place)
            for part in node.body:
                self.assertIsInstance(part, (ast.FunctionDef, ast.Pass), place)
            here = [part.name for part in node.body if isinstance(part, ast.FunctionDef)]
            self.assertEqual(len(here), len(set(here)), place)
            methods.extend(here)
        for node, place in self.each(ast.Attribute):
            if isinstance(node.ctx, ast.Store):
                values.append(node.attr)
        self.assertEqual(set(methods) & set(values), set())
        for name in set(values) | set(methods) - set(DUNDERS):
            for kind in (str, int, list, dict, set, bytes):
                self.assertFalse(hasattr(kind, name), name)

    def test_statements(self):
        for node, place in self.each(ast.stmt):
            if not isinstance(node, (ast.ImportFrom, ast.ClassDef)):
                self.assertIsInstance(node, STATEMENTS, place)
            if isinstance(node, ast.Assign):
                self.assertEqual(len(node.targets), 1, place)
                self.assertNotIsInstance(node.targets[0], (ast.Tuple, ast.List), place)
            if isinstance(node, (ast.For, ast.While)):
                self.assertEqual(node.orelse, [], place)
            if isinstance(node, ast.Try):
                self.assertEqual(node.finalbody, [], place)
        for name in files():
            for node in ast.parse(text_of(name)).body[1:]:
                for part in ast.walk(node):
                    if isinstance(part, ast.Expr):
                        self.assertIsInstance(part.value, ast.Call, f"{name}:{part.lineno}")

    def test_expressions(self):
        for node, place in self.each(ast.expr):
            self.assertIsInstance(node, EXPRESSIONS, place)
            if isinstance(node, ast.Constant):
                self.assertIsInstance(node.value, (int, str, type(None)), place)
                self.assertNotIn("%", str(node.value), place)
            if isinstance(node, ast.BinOp):
                self.assertNotIsInstance(node.op, (ast.Div, ast.Pow), place)
            if isinstance(node, ast.ListComp):
                self.assertEqual(len(node.generators), 1, place)
                self.assertLessEqual(len(node.generators[0].ifs), 1, place)
            if isinstance(node, ast.FormattedValue):
                self.assertIsInstance(node.value, ast.Name, place)
            if isinstance(node, ast.Compare) and isinstance(node.ops[0], (ast.Is, ast.IsNot)):
                self.assertIsInstance(node.comparators[0], ast.Constant, place)

    def test_names(self):
        for node, place in self.each(ast.Name):
            self.assertFalse(node.id.startswith("_"), place)
            if hasattr(builtins, node.id):
                self.assertIn(node.id, OWN_NAMES, place)
                self.assertIsInstance(node.ctx, ast.Load, place)

    def test_no_local_is_called_like_what_its_file_draws_or_defines(self):
        for name in files():
            taken = [part.name for node in nodes_of(name, ast.ImportFrom) for part in node.names]
            taken += [node.name for node in nodes_of(name, ast.ClassDef)]
            taken += [node.name for node in ast.parse(text_of(name)).body if isinstance(node, ast.FunctionDef)]
            for node in nodes_of(name, ast.arg):
                self.assertNotIn(node.arg, taken, f"{name}:{node.lineno}")
            for node in nodes_of(name, ast.Name):
                if isinstance(node.ctx, ast.Store):
                    self.assertNotIn(node.id, taken, f"{name}:{node.lineno}")

    def test_methods_called(self):
        own = [node.name for node, place in self.each(ast.FunctionDef)]
        for node, place in self.each(ast.Call):
            if isinstance(node.func, ast.Attribute):
                self.assertIn(node.func.attr, METHODS + own, place)

    def test_sets_and_walks(self):
        for name in files():
            tree = ast.parse(text_of(name))
            above = parents_of(tree)
            for node in ast.walk(tree):
                place = f"{name}:{getattr(node, 'lineno', 0)}"
                up = above.get(node)
                if called(node) == "set":
                    while isinstance(up, ast.BinOp):
                        up = above[up]
                    self.assertTrue(isinstance(up, ast.Compare) or called(up) in ("sorted", "len"), place)
                if called(node) in WALKED + ("items", "keys", "values"):
                    walked = isinstance(up, (ast.For, ast.comprehension)) or called(up) in WALKERS
                    self.assertTrue(walked, place)
