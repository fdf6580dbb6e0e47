"""The package keeps to its small part of the language, as far as a look at the code can tell."""

import ast
import builtins
import pathlib
import re
import unittest

PACKAGE = pathlib.Path(__file__).resolve().parent.parent / "goneday"

BUILT_IN = set(
    "len range enumerate zip min max sum abs sorted reversed int str bool list tuple dict set frozenset isinstance ord "
    "repr any all divmod Exception ValueError TypeError KeyError IndexError LookupError ZeroDivisionError "
    "ArithmeticError OverflowError RuntimeError NotImplementedError AttributeError StopIteration".split()
)
METHODS = set(
    "append clear copy count endswith extend find get index insert isalnum isalpha isdigit islower isspace isupper "
    "items join keys ljust lower lstrip partition pop remove replace reverse rfind rjust rpartition rsplit rstrip "
    "setdefault split splitlines startswith strip update upper values zfill bit_length".split()
)
OUT = re.compile(
    r"\b(type|typing|typing_extensions|enum|Enum|IntEnum|StrEnum|Flag|IntFlag|Generic|Protocol|ABC|ABCMeta|namedtuple"
    r"|NamedTuple|TypedDict|TYPE_CHECKING|abstractmethod)\b|dataclass|overload|contextmanager"
)
NODES = (
    ast.Module, ast.Expr, ast.ImportFrom, ast.alias, ast.FunctionDef, ast.arguments, ast.arg, ast.ClassDef, ast.Return,
    ast.Assign, ast.AugAssign, ast.For, ast.While, ast.If, ast.Break, ast.Continue, ast.Pass, ast.Raise, ast.Try,
    ast.ExceptHandler, ast.BoolOp, ast.BinOp, ast.UnaryOp, ast.Lambda, ast.IfExp, ast.Dict, ast.Set, ast.ListComp,
    ast.comprehension, ast.Compare, ast.Call, ast.keyword, ast.JoinedStr, ast.FormattedValue, ast.Constant,
    ast.Attribute, ast.Subscript, ast.Slice, ast.Name, ast.List, ast.Tuple, ast.Load, ast.Store, ast.boolop,
    ast.operator, ast.unaryop, ast.cmpop,
)


def sources():
    return [(path.name, path.read_text("ascii")) for path in sorted(PACKAGE.glob("*.py"))]


def bound_names(tree):
    for node in ast.walk(tree):
        if isinstance(node, (ast.FunctionDef, ast.ClassDef)):
            yield node.name
        if isinstance(node, ast.arg):
            yield node.arg
        if isinstance(node, ast.Name) and isinstance(node.ctx, ast.Store):
            yield node.id
        if isinstance(node, ast.ExceptHandler) and node.name:
            yield node.name


def known_names(tree):
    imported = [name.name for node in tree.body if isinstance(node, ast.ImportFrom) for name in node.names]
    return BUILT_IN | set(bound_names(tree)) | set(imported)


def called_as(node):
    """The name by which a call calls."""
    return node.func.attr if isinstance(node.func, ast.Attribute) else getattr(node.func, "id", None)


class TestLanguage(unittest.TestCase):
    def test_files(self):
        found = [path.name for path in PACKAGE.iterdir() if path.name != "__pycache__"]
        self.assertIn("__init__.py", found)
        for name in found:
            self.assertRegex(name, r"\A[a-z_0-9]+\.py\Z")

    def test_sizes_and_signs(self):
        for name, source in sources():
            rows = source.split("\n")
            self.assertLessEqual(len(rows), 400, name)
            for row in rows:
                self.assertRegex(row, r"\A[ -~]{0,120}\Z", name)
            self.assertIsNone(OUT.search(source), name)
            for node in ast.walk(ast.parse(source)):
                if isinstance(node, ast.FunctionDef):
                    self.assertLessEqual(node.end_lineno - node.lineno + 1, 40, (name, node.name))

    def test_forms(self):
        for name, source in sources():
            for node in ast.walk(ast.parse(source)):
                where = (name, getattr(node, "lineno", 0), ast.dump(node)[:80])
                self.assertIsInstance(node, NODES, where)
                self.assertFalse(isinstance(node, (ast.For, ast.While)) and node.orelse, where)
                self.assertFalse(isinstance(node, ast.Assign) and len(node.targets) != 1, where)
                self.assertFalse(isinstance(node, ast.Try) and node.finalbody, where)
                self.assertFalse(isinstance(node, (ast.FunctionDef, ast.ClassDef)) and node.decorator_list, where)
                self.assertFalse(isinstance(node, (ast.Div, ast.MatMult)), where)
                if isinstance(node, ast.Constant):
                    self.assertIn(type(node.value), (int, str, bool, type(None)), where)
                    self.assertNotIn("%", str(node.value), where)
                if isinstance(node, ast.FunctionDef):
                    self.assertFalse(node.args.vararg or node.args.kwarg or node.args.kwonlyargs, where)
                if isinstance(node, ast.ListComp):
                    self.assertEqual(len(node.generators), 1, where)
                    self.assertLessEqual(len(node.generators[0].ifs), 1, where)
                if isinstance(node, ast.Compare) and any(isinstance(sign, (ast.Is, ast.IsNot)) for sign in node.ops):
                    self.assertIsInstance(node.comparators[-1], ast.Constant, where)
                if isinstance(node, ast.FormattedValue):
                    self.assertIsInstance(node.value, ast.Name, where)
                    self.assertIsNone(node.format_spec, where)

    def test_names(self):
        for name, source in sources():
            tree = ast.parse(source)
            known = known_names(tree)
            for bound in bound_names(tree):
                self.assertRegex(bound, r"\A([A-Za-z][A-Za-z0-9_]*|__init__)\Z", name)
                self.assertNotIn(bound, dir(builtins), name)
            for node in ast.walk(tree):
                if isinstance(node, ast.Name):
                    self.assertIn(node.id, known, (name, node.lineno))

    def test_methods(self):
        own = {name for dummy, source in sources() for name in bound_names(ast.parse(source))}
        for name, source in sources():
            for node in ast.walk(ast.parse(source)):
                if isinstance(node, ast.Call) and isinstance(node.func, ast.Attribute):
                    self.assertIn(node.func.attr, METHODS | own | {"__init__"}, (name, node.lineno))

    def test_values_and_methods_of_objects(self):
        methods, values = set(), set()
        for name, source in sources():
            for node in ast.walk(ast.parse(source)):
                if isinstance(node, ast.ClassDef):
                    methods |= {part.name for part in node.body if isinstance(part, ast.FunctionDef)}
                if isinstance(node, ast.Attribute) and isinstance(node.ctx, ast.Store):
                    self.assertIsInstance(node.value, ast.Name, (name, node.lineno))
                    values.add(node.attr)
        self.assertEqual(methods & values, set())
        taken = {part for kind in (int, str, list, dict, set, tuple, bytes) for part in dir(kind)} - {"__init__"}
        self.assertEqual((methods - METHODS) & (taken - {"add", "discard"}), set())
        self.assertEqual(values & taken, set())

    def test_no_local_is_called_like_an_import_or_a_class(self):
        for name, source in sources():
            tree = ast.parse(source)
            taken = {alias.name for node in tree.body if isinstance(node, ast.ImportFrom) for alias in node.names}
            taken |= {node.name for node in tree.body if isinstance(node, ast.ClassDef)}
            for node in ast.walk(tree):
                if isinstance(node, ast.FunctionDef):
                    own = [bound for part in node.body + [node.args] for bound in bound_names(part)]
                    self.assertEqual(taken & set(own), set(), (name, node.name))

    def test_walked_at_once(self):
        walked = {"zip", "enumerate", "reversed", "range", "items", "keys", "values"}
        walkers = {"list", "tuple", "dict", "sorted", "sum", "any", "all", "enumerate", "zip", "min", "max", "join"}
        for name, source in sources():
            tree = ast.parse(source)
            fine = [node.iter for node in ast.walk(tree) if isinstance(node, (ast.For, ast.comprehension))]
            for node in ast.walk(tree):
                if isinstance(node, ast.Call) and called_as(node) in walkers:
                    fine += node.args[:1] if called_as(node) != "zip" else node.args
            for node in ast.walk(tree):
                if isinstance(node, ast.Call) and called_as(node) in walked:
                    self.assertIn(node, fine, (name, node.lineno))

    def test_sets_are_not_kept(self):
        for name, source in sources():
            tree = ast.parse(source)
            fine = []
            for node in ast.walk(tree):
                if isinstance(node, ast.Call) and called_as(node) in ("sorted", "len") and not node.keywords:
                    fine += node.args
                if isinstance(node, ast.Compare):
                    fine += [node.left] + node.comparators
            for node in ast.walk(tree):
                if isinstance(node, ast.Set) or (isinstance(node, ast.Call) and called_as(node) in ("set", "frozenset")):
                    self.assertIn(node, fine, (name, node.lineno))

    def test_imports(self):
        homes = {name[:-3]: ast.parse(source) for name, source in sources()}
        drawn = {}
        for name, tree in homes.items():
            rows = [node for node in tree.body if isinstance(node, ast.ImportFrom)]
            self.assertEqual(len(rows), len([node for node in ast.walk(tree) if isinstance(node, ast.ImportFrom)]))
            drawn[name] = [row.module.split(".")[1] for row in rows]
            for row in rows:
                self.assertRegex(row.module, r"\Agoneday\.[a-z_]+\Z", name)
                self.assertEqual(row.level, 0, name)
                top = [node.name for node in homes[row.module.split(".")[1]].body if hasattr(node, "name")]
                top += [node.targets[0].id for node in homes[row.module.split(".")[1]].body if hasattr(node, "targets")]
                for alias in row.names:
                    self.assertIn(alias.name, top, name)
                    self.assertIsNone(alias.asname, name)
        while drawn:
            free = [name for name in drawn if not [other for other in drawn[name] if other in drawn]]
            self.assertTrue(free, drawn)
            drawn = {name: drawn[name] for name in drawn if name not in free}


if __name__ == "__main__":
    unittest.main()
