"""The package keeps to its part of the language: what of the rules L1 to L28 a walk of the code can see."""

import ast
import builtins
import pathlib
import re
import unittest

PACKAGE = pathlib.Path(__file__).resolve().parent.parent / "sealhouse"

STATEMENTS = (
    ast.Assign, ast.AugAssign, ast.AnnAssign, ast.If, ast.While, ast.For, ast.Return, ast.Break,
    ast.Continue, ast.Pass, ast.Raise, ast.Try, ast.Expr, ast.FunctionDef, ast.ClassDef, ast.ImportFrom,
)
EXPRESSIONS = (
    ast.BoolOp, ast.BinOp, ast.UnaryOp, ast.Lambda, ast.IfExp, ast.Dict, ast.Set, ast.ListComp, ast.Compare,
    ast.Call, ast.FormattedValue, ast.JoinedStr, ast.Constant, ast.Attribute, ast.Subscript, ast.Name,
    ast.List, ast.Tuple, ast.Slice,
)
BUILTINS = set(
    "len range enumerate zip min max sum abs sorted reversed int str bool list tuple dict set frozenset "
    "isinstance ord repr any all divmod Exception ValueError TypeError KeyError IndexError LookupError "
    "ZeroDivisionError ArithmeticError OverflowError RuntimeError NotImplementedError AttributeError "
    "StopIteration".split()
)
METHODS = set(
    "append clear copy count endswith extend find get index insert isalnum isalpha isdigit islower isspace "
    "isupper items join keys ljust lower lstrip partition pop remove replace reverse rfind rjust rpartition "
    "rsplit rstrip setdefault split splitlines startswith strip update upper values zfill bit_length".split()
)
DUNDER_METHODS = {"__init__", "__eq__", "__repr__", "__str__", "__len__"}
WALKED = {"zip", "enumerate", "reversed", "range", "items", "keys", "values"}
WALKERS = {"list", "tuple", "dict", "sorted", "sum", "any", "all", "enumerate", "zip", "min", "max"}
NOWHERE = {"register", "mro", "elements", "open", "input", "version_info", "with_traceback", "add_note"}
NO_WORDS = re.compile(
    r"\b(type|typing|typing_extensions|enum|Enum|IntEnum|StrEnum|Flag|IntFlag|Generic|Protocol|ABC|ABCMeta|"
    r"namedtuple|NamedTuple|TypedDict|TYPE_CHECKING|abstractmethod)\b|dataclass|overload|contextmanager"
)


def files():
    return sorted(path for path in PACKAGE.rglob("*") if path.is_file() and "__pycache__" not in path.parts)


def parents(tree):
    above = {}
    for node in ast.walk(tree):
        for child in ast.iter_child_nodes(node):
            above[child] = node
    return above


def called(node):
    if isinstance(node, ast.Call):
        if isinstance(node.func, ast.Name):
            return node.func.id
        if isinstance(node.func, ast.Attribute):
            return node.func.attr
    return None


def bound_in(function):
    """The names that a def binds: its parameters, what it assigns, and what its loops walk."""
    spec = function.args
    names = [arg.arg for arg in spec.args + spec.posonlyargs + spec.kwonlyargs]
    for node in ast.walk(function):
        if isinstance(node, ast.Name) and isinstance(node.ctx, ast.Store):
            names.append(node.id)
        elif isinstance(node, ast.arg):
            names.append(node.arg)
        elif isinstance(node, ast.ExceptHandler) and node.name is not None:
            names.append(node.name)
    return names


def is_plain(node, defined):
    if isinstance(node, ast.Constant):
        return True
    if isinstance(node, ast.UnaryOp) and isinstance(node.op, ast.USub):
        return is_plain(node.operand, defined)
    if isinstance(node, (ast.List, ast.Tuple)):
        return all(is_plain(each, defined) for each in node.elts)
    if isinstance(node, ast.Dict):
        return all(is_plain(each, defined) for each in node.keys + node.values)
    return isinstance(node, ast.Name) and node.id in defined


class FormTest(unittest.TestCase):
    def each_file(self):
        for path in files():
            source = path.read_text(encoding="utf-8")
            yield path, source, ast.parse(source)

    def test_files(self):
        names = [path.relative_to(PACKAGE).as_posix() for path in files()]
        self.assertIn("__init__.py", names)
        for name in names:
            self.assertRegex(name, r"\A([a-z][a-z0-9_]*|__init__|__main__)\.py\Z")
            stem = name[:-3]
            self.assertNotIn(stem, dir(builtins))
            self.assertNotRegex(stem, r"\A(test|tests|testing|test_.*|site|conftest)\Z")

    def test_signs_and_sizes(self):
        for path, source, tree in self.each_file():
            self.assertRegex(source, r"\A[ -~\n]*\Z")
            self.assertIsNone(NO_WORDS.search(source))
            rows = source.split("\n")
            self.assertLessEqual(len(rows), 400)
            self.assertLessEqual(max(len(row) for row in rows), 120)
            for node in ast.walk(tree):
                if isinstance(node, ast.FunctionDef):
                    self.assertLessEqual(node.end_lineno - node.lineno + 1, 40, node.name)

    def test_top(self):
        for path, source, tree in self.each_file():
            bound = []
            for place, node in enumerate(tree.body):
                if isinstance(node, ast.ImportFrom):
                    self.assertEqual(node.level, 0)
                    self.assertTrue(node.module.startswith("sealhouse."), node.module)
                    target = ast.parse((PACKAGE / (node.module.split(".")[1] + ".py")).read_text())
                    defined = [each.name for each in target.body if hasattr(each, "name")]
                    for alias in node.names:
                        self.assertIsNone(alias.asname)
                        self.assertIn(alias.name, defined)
                        bound.append(alias.name)
                elif isinstance(node, (ast.FunctionDef, ast.ClassDef)):
                    bound.append(node.name)
                elif isinstance(node, ast.Assign):
                    self.assertTrue(is_plain(node.value, bound), ast.unparse(node))
                    if isinstance(node.value, (ast.List, ast.Dict)):
                        inner = [each for each in ast.walk(node.value) if each is not node.value]
                        self.assertFalse([each for each in inner if isinstance(each, (ast.List, ast.Dict))])
                    bound.append(node.targets[0].id)
                else:
                    self.assertEqual(place, 0, ast.unparse(node))
                    self.assertIsInstance(node.value.value, str)
            self.assertEqual(len(bound), len(set(bound)))

    def test_no_import_in_a_ring(self):
        drawn = {}
        for path, source, tree in self.each_file():
            drawn["sealhouse." + path.stem] = [
                node.module for node in tree.body if isinstance(node, ast.ImportFrom)
            ]
        settled = set()
        while len(settled) < len(drawn):
            free = [name for name in drawn if name not in settled and set(drawn[name]) <= settled]
            self.assertTrue(free, "files draw from one another")
            settled.update(free)

    def test_statements_and_expressions(self):
        for path, source, tree in self.each_file():
            for node in ast.walk(tree):
                if isinstance(node, ast.stmt):
                    self.assertIsInstance(node, STATEMENTS, ast.unparse(node))
                if isinstance(node, ast.expr):
                    self.assertIsInstance(node, EXPRESSIONS, ast.unparse(node))
                self.check_node(node)

    def check_node(self, node):
        if isinstance(node, ast.Assign):
            self.assertEqual(len(node.targets), 1)
        if isinstance(node, (ast.For, ast.While)):
            self.assertEqual(node.orelse, [])
        if isinstance(node, ast.Try):
            self.assertEqual(node.finalbody, [])
        if isinstance(node, ast.ListComp):
            self.assertEqual(len(node.generators), 1)
            self.assertLessEqual(len(node.generators[0].ifs), 1)
        if isinstance(node, ast.BinOp):
            self.assertNotIsInstance(node.op, (ast.Div, ast.MatMult))
            if isinstance(node.op, ast.Pow):
                self.assertIsInstance(node.right, ast.Constant)
        if isinstance(node, ast.Constant):
            self.assertIsInstance(node.value, (int, str, type(None)))
            if isinstance(node.value, str):
                self.assertNotIn("%", node.value)
        if isinstance(node, ast.FormattedValue):
            self.assertIsInstance(node.value, ast.Name)
            self.assertIn(node.conversion, (-1, ord("r")))
            self.assertIsNone(node.format_spec)
        if isinstance(node, ast.Compare):
            for op, right in zip(node.ops, node.comparators):
                if isinstance(op, (ast.Is, ast.IsNot)):
                    self.assertIn(ast.unparse(right), ("None", "True", "False"))
        if isinstance(node, ast.Raise):
            self.assertIsInstance(node.exc, ast.Call)
        if isinstance(node, ast.ExceptHandler):
            self.assertIsNotNone(node.type)
            self.assertNotIn(ast.unparse(node.type), ("Exception", "TypeError"))
        if isinstance(node, ast.Call) and isinstance(node.func, ast.Name):
            self.assertNotEqual(node.func.id, "chr")

    def test_functions_and_classes(self):
        for path, source, tree in self.each_file():
            above = parents(tree)
            for node in ast.walk(tree):
                if isinstance(node, (ast.FunctionDef, ast.Lambda)):
                    spec = node.args
                    self.assertFalse(spec.vararg or spec.kwarg or spec.kwonlyargs or spec.posonlyargs)
                    for default in spec.defaults:
                        self.assertIsInstance(default, ast.Constant)
                if isinstance(node, (ast.FunctionDef, ast.ClassDef)):
                    self.assertEqual(node.decorator_list, [])
                if isinstance(node, ast.ClassDef):
                    self.assertIsInstance(above[node], ast.Module)
                    self.assertLessEqual(len(node.bases), 1)
                    self.assertEqual(node.keywords, [])
                    self.check_class_body(node)

    def check_class_body(self, node):
        names = []
        for each in node.body:
            if isinstance(each, ast.Expr):
                self.assertIsInstance(each.value.value, str)
            else:
                self.assertIsInstance(each, ast.FunctionDef)
                names.append(each.name)
                if each.name.startswith("__"):
                    self.assertIn(each.name, DUNDER_METHODS)
        self.assertEqual(len(names), len(set(names)))

    def test_names(self):
        for path, source, tree in self.each_file():
            top = [node.name for node in tree.body if isinstance(node, ast.ClassDef)]
            for node in tree.body:
                if isinstance(node, ast.ImportFrom):
                    top.extend(alias.name for alias in node.names)
            known = set(top) | {node.name for node in tree.body if isinstance(node, ast.FunctionDef)}
            known |= {node.targets[0].id for node in tree.body if isinstance(node, ast.Assign)}
            for node in ast.walk(tree):
                if isinstance(node, ast.FunctionDef):
                    for name in bound_in(node):
                        self.assertNotIn(name, top)
                        self.assertNotIn(name, dir(builtins))
                        self.assertNotIn(name, NOWHERE)
                        self.assertRegex(name, r"\A[A-Za-z][A-Za-z0-9_]*\Z")
                if isinstance(node, ast.Name) and node.id in dir(builtins) and node.id not in known:
                    self.assertIn(node.id, BUILTINS)
                if isinstance(node, ast.Attribute):
                    self.assertNotIn(node.attr, NOWHERE | {"format", "format_map"})

    def test_methods(self):
        own = set()
        values = set()
        trees = [tree for path, source, tree in self.each_file()]
        for tree in trees:
            for node in ast.walk(tree):
                if isinstance(node, ast.ClassDef):
                    own.update(each.name for each in node.body if isinstance(each, ast.FunctionDef))
                if isinstance(node, ast.Attribute) and isinstance(node.ctx, ast.Store):
                    values.add(node.attr)
        self.assertFalse((own - DUNDER_METHODS) & values)
        for tree in trees:
            for node in ast.walk(tree):
                if isinstance(node, ast.Call) and isinstance(node.func, ast.Attribute):
                    self.assertIn(node.func.attr, METHODS | own | {"__init__"})

    def test_walked_at_once(self):
        for path, source, tree in self.each_file():
            above = parents(tree)
            for node in ast.walk(tree):
                if called(node) in WALKED:
                    up = above[node]
                    walked = isinstance(up, (ast.For, ast.comprehension)) and up.iter is node
                    handed = called(up) in WALKERS and up.args[0] is node
                    self.assertTrue(walked or handed, ast.unparse(node))
                if called(node) in ("set", "frozenset") or isinstance(node, ast.Set):
                    up = above[node]
                    self.assertTrue(isinstance(up, (ast.Compare, ast.BinOp)) or called(up) in ("sorted", "len"))


if __name__ == "__main__":
    unittest.main()
