"""The package's files keep to the small part of Python that LANGUAGE.md tells (the rules that a walk can see)."""

import ast
import builtins
import pathlib
import re
import unittest

PACKAGE = pathlib.Path(__file__).resolve().parent.parent / "orelines"
FILES = sorted(path for path in PACKAGE.rglob("*") if "__pycache__" not in path.parts)

STATEMENTS = (
    ast.FunctionDef, ast.ClassDef, ast.ImportFrom, ast.Assign, ast.AugAssign, ast.AnnAssign, ast.If, ast.While, ast.For,
    ast.Return, ast.Break, ast.Continue, ast.Pass, ast.Raise, ast.Try, ast.Expr,
)
EXPRESSIONS = (
    ast.Constant, ast.Name, ast.Attribute, ast.Subscript, ast.Slice, ast.List, ast.Tuple, ast.Dict, ast.BinOp,
    ast.UnaryOp, ast.BoolOp, ast.Compare, ast.IfExp, ast.Call, ast.ListComp, ast.Lambda, ast.JoinedStr,
    ast.FormattedValue,
)
OWN_NAMES = set("""
    len range enumerate zip min max sum abs sorted reversed int str bool list tuple dict set frozenset isinstance ord repr
    any all divmod Exception ValueError TypeError KeyError IndexError LookupError ZeroDivisionError ArithmeticError
    OverflowError RuntimeError NotImplementedError AttributeError StopIteration
""".split())
METHODS = set("""
    append clear copy count endswith extend find get index insert isalnum isalpha isdigit islower isspace isupper items
    join keys ljust lower lstrip partition pop remove replace reverse rfind rjust rpartition rsplit rstrip setdefault
    split splitlines startswith strip update upper values zfill bit_length
""".split())
WORDS = set("""
    type typing typing_extensions enum Enum IntEnum StrEnum Flag IntFlag Generic Protocol ABC ABCMeta namedtuple
    NamedTuple TypedDict TYPE_CHECKING abstractmethod
""".split())
UNUSED = set("""
    register mro elements open input version_info with_traceback add_note attrgetter breakpoint builtins compile
    copyright credits delattr dir eval exec exit gc getattr globals hasattr help id importlib license locals
    methodcaller os quit setattr super type vars sys
""".split())
WALKED_AT_ONCE = {"zip", "enumerate", "reversed", "range"}
WALKERS = {"list", "tuple", "dict", "sorted", "sum", "any", "all", "enumerate", "zip", "min", "max"}
CLASS_METHODS = {"__init__", "__eq__", "__repr__", "__str__", "__len__"}


def trees():
    for path in FILES:
        yield path, ast.parse(path.read_text(encoding="utf-8"))


def bound_names(tree):
    for node in ast.walk(tree):
        if isinstance(node, ast.Name) and isinstance(node.ctx, ast.Store):
            yield node.id
        elif isinstance(node, ast.arg):
            yield node.arg
        elif isinstance(node, (ast.FunctionDef, ast.ClassDef)):
            yield node.name
        elif isinstance(node, ast.alias):
            yield node.asname or node.name


def is_docstring(node):
    return isinstance(node, ast.Expr) and isinstance(node.value, ast.Constant) and isinstance(node.value.value, str)


class LanguageTest(unittest.TestCase):
    def test_files(self):
        self.assertIn(PACKAGE / "__init__.py", FILES)
        for path in FILES:
            self.assertTrue(path.is_dir() or path.suffix == ".py", path)
            self.assertRegex(path.stem, r"^([a-z][a-z0-9_]*|__init__|__main__)$")
            self.assertNotIn(path.stem, dir(builtins))
            self.assertFalse(path.stem.startswith("test") or path.stem in ("site", "conftest"), path)

    def test_signs_and_sizes(self):
        for path in FILES:
            text = path.read_text(encoding="utf-8")
            self.assertIsNone(re.search(r"[^\n -~]", text), path)
            rows = text.split("\n")
            self.assertLessEqual(len(rows) - 1, 400, path)
            self.assertLessEqual(max(map(len, rows)), 120, path)
        for path, tree in trees():
            for node in ast.walk(tree):
                if isinstance(node, ast.FunctionDef):
                    self.assertLessEqual(node.end_lineno - node.lineno + 1, 40, node.name)

    def test_words(self):
        for path in FILES:
            text = path.read_text(encoding="utf-8")
            self.assertEqual(WORDS & set(re.findall(r"\w+", text)), set(), path)
            self.assertIsNone(re.search("dataclass|overload|contextmanager", text), path)

    def test_imports(self):
        for path, tree in trees():
            for node in ast.walk(tree):
                if isinstance(node, ast.ImportFrom):
                    self.assertIn(node, tree.body)
                    self.assertEqual(node.level, 0)
                    self.assertTrue(node.module.startswith("orelines."), path)
                    self.assert_defined_there(node)

    def assert_defined_there(self, node):
        drawn_from = PACKAGE.parent / (node.module.replace(".", "/") + ".py")
        body = ast.parse(drawn_from.read_text(encoding="utf-8")).body
        for alias in node.names:
            own = [part.name for part in body if isinstance(part, (ast.FunctionDef, ast.ClassDef))]
            own += [part.targets[0].id for part in body if isinstance(part, ast.Assign)]
            self.assertIn(alias.name, own)

    def test_no_two_files_draw_from_one_another(self):
        drawn = {}
        for path, tree in trees():
            drawn["orelines." + path.stem] = [n.module for n in ast.walk(tree) if isinstance(n, ast.ImportFrom)]
        while drawn:
            free = [name for name, others in drawn.items() if not any(other in drawn for other in others)]
            self.assertTrue(free, drawn)
            for name in free:
                del drawn[name]

    def test_tops(self):
        for path, tree in trees():
            self.assertTrue(is_docstring(tree.body[0]), path)
            for node in tree.body[1:]:
                self.assertIsInstance(node, (ast.ImportFrom, ast.FunctionDef, ast.ClassDef, ast.Assign))
                if isinstance(node, ast.Assign):
                    self.assert_plain(node.value, [n.name for n in tree.body if isinstance(n, ast.FunctionDef)])
            names = [name for node in tree.body for name in self.names_bound_by(node)]
            self.assertEqual(len(names), len(set(names)), path)

    def names_bound_by(self, node):
        if isinstance(node, ast.Assign):
            return [node.targets[0].id]
        if isinstance(node, ast.ImportFrom):
            return [alias.asname or alias.name for alias in node.names]
        return [node.name] if isinstance(node, (ast.FunctionDef, ast.ClassDef)) else []

    def assert_plain(self, value, functions):
        for node in ast.walk(value):
            if isinstance(node, ast.Name):
                self.assertIn(node.id, functions)
            else:
                self.assertIsInstance(node, (ast.Constant, ast.List, ast.Tuple, ast.Dict, ast.UnaryOp, ast.USub,
                                             ast.Load))
            if node is not value:
                self.assertNotIsInstance(node, (ast.List, ast.Dict))

    def test_statements(self):
        for path, tree in trees():
            for node in ast.walk(tree):
                where = (path.name, getattr(node, "lineno", None))
                if isinstance(node, ast.stmt):
                    self.assertIsInstance(node, STATEMENTS, where)
                if isinstance(node, ast.Assign):
                    self.assertEqual(len(node.targets), 1, where)
                if isinstance(node, (ast.For, ast.While)):
                    self.assertEqual(node.orelse, [], where)
                if isinstance(node, ast.Try):
                    self.assertEqual(node.finalbody, [], where)
                if isinstance(node, ast.Expr):
                    self.assertTrue(node is tree.body[0] or isinstance(node.value, ast.Call), where)

    def test_expressions(self):
        for path, tree in trees():
            for node in ast.walk(tree):
                where = (path.name, getattr(node, "lineno", None))
                if isinstance(node, ast.expr):
                    self.assertIsInstance(node, EXPRESSIONS, where)
                if isinstance(node, ast.Constant):
                    self.assertIsInstance(node.value, (int, str, type(None)), where)
                if isinstance(node, ast.BinOp):
                    self.assertNotIsInstance(node.op, (ast.Div, ast.MatMult), where)
                    if isinstance(node.op, ast.Pow):
                        self.assertIsInstance(node.right, ast.Constant, where)
                if isinstance(node, ast.ListComp):
                    self.assertEqual(len(node.generators), 1, where)
                    self.assertLessEqual(len(node.generators[0].ifs), 1, where)
                if isinstance(node, ast.Compare) and isinstance(node.ops[0], (ast.Is, ast.IsNot)):
                    self.assertIn(node.comparators[0].value, (None, True, False), where)

    def test_functions_and_classes(self):
        for path, tree in trees():
            for node in ast.walk(tree):
                if isinstance(node, (ast.FunctionDef, ast.ClassDef)):
                    self.assertEqual(node.decorator_list, [])
                if isinstance(node, ast.arguments):
                    self.assertEqual((node.vararg, node.kwarg, node.kwonlyargs, node.posonlyargs), (None, None, [], []))
                if isinstance(node, ast.ClassDef):
                    self.assertIn(node, tree.body)
                    self.assertLessEqual(len(node.bases), 1)
                    for part in node.body:
                        self.assertIsInstance(part, ast.FunctionDef)
                        self.assertTrue(part.name in CLASS_METHODS or not part.name.startswith("_"))

    def test_names(self):
        python_names = set(dir(builtins))
        for path, tree in trees():
            bound = set(bound_names(tree)) - CLASS_METHODS
            for name in bound:
                self.assertRegex(name, r"^[A-Za-z][A-Za-z0-9_]*$")
            self.assertEqual(bound & (python_names | UNUSED), set(), path)
            for node in ast.walk(tree):
                if isinstance(node, ast.Name) and node.id in python_names:
                    self.assertIn(node.id, OWN_NAMES, (path.name, node.lineno))

    def test_no_local_is_called_like_a_class_or_an_import(self):
        for path, tree in trees():
            taken = {n.name for n in tree.body if isinstance(n, ast.ClassDef)}
            for node in tree.body:
                if isinstance(node, ast.ImportFrom):
                    taken |= {alias.asname or alias.name for alias in node.names}
            functions = [n for n in ast.walk(tree) if isinstance(n, ast.FunctionDef)]
            inside = {name for function in functions for part in [function.args] + function.body
                      for name in bound_names(part)}
            self.assertEqual(inside & taken, set(), path)

    def test_methods(self):
        own, values = set(), set()
        for _, tree in trees():
            for node in ast.walk(tree):
                if isinstance(node, ast.ClassDef):
                    own |= {part.name for part in node.body}
                if isinstance(node, ast.Attribute) and isinstance(node.ctx, ast.Store):
                    values.add(node.attr)
        self.assertEqual(own & values, set())
        for path, tree in trees():
            for node in ast.walk(tree):
                if isinstance(node, ast.Call) and isinstance(node.func, ast.Attribute):
                    self.assertIn(node.func.attr, own | METHODS, (path.name, node.lineno))
        python_own = {name for kind in (str, int, list, dict, set, bytes) for name in dir(kind)}
        self.assertEqual((own | values) & python_own - CLASS_METHODS, set())

    def test_walked_at_once(self):
        for path, tree in trees():
            walked = set()
            for node in ast.walk(tree):
                if isinstance(node, (ast.For, ast.comprehension)):
                    walked.add(node.iter)
                if isinstance(node, ast.Call) and isinstance(node.func, ast.Name) and node.func.id in WALKERS:
                    walked |= set(node.args[:1])
            for node in ast.walk(tree):
                if isinstance(node, ast.Call):
                    name = getattr(node.func, "id", getattr(node.func, "attr", None))
                    if name in WALKED_AT_ONCE or name in ("items", "keys", "values"):
                        self.assertIn(node, walked, (path.name, node.lineno))


if __name__ == "__main__":
    unittest.main()
