"""The rules of the language that can be seen from outside, held against the package's files."""

import ast
import pathlib
import re
import unittest

PACKAGE = pathlib.Path(__file__).resolve().parent.parent / "cardclaims"
FILES = sorted(PACKAGE.glob("*.py"))

BUILT_IN = set(
    "len range enumerate zip min max sum abs sorted reversed int str bool list tuple dict set frozenset isinstance ord"
    " repr any all divmod Exception ValueError TypeError KeyError IndexError LookupError ZeroDivisionError"
    " ArithmeticError OverflowError RuntimeError NotImplementedError AttributeError StopIteration".split()
)
OWN_METHODS = set(
    "append clear copy count endswith extend find get index insert isalnum isalpha isdigit islower isspace isupper"
    " items join keys ljust lower lstrip partition pop remove replace reverse rfind rjust rpartition rsplit rstrip"
    " setdefault split splitlines startswith strip update upper values zfill bit_length".split()
)
BANNED_WORDS = re.compile(
    r"\b(type|typing|typing_extensions|enum|Enum|IntEnum|StrEnum|Flag|IntFlag|Generic|Protocol|ABC|ABCMeta|namedtuple"
    r"|NamedTuple|TypedDict|TYPE_CHECKING|abstractmethod)\b|dataclass|overload|contextmanager"
)
BANNED_NAMES = set(
    "register mro elements open input version_info with_traceback add_note attrgetter breakpoint builtins compile"
    " copyright credits delattr dir eval exec exit gc getattr globals hasattr help id importlib license locals"
    " methodcaller os quit setattr super type vars sys chr print format format_map".split()
)
ALLOWED = (
    ast.Module, ast.ImportFrom, ast.alias, ast.FunctionDef, ast.arguments, ast.arg, ast.ClassDef, ast.Assign,
    ast.AugAssign, ast.If, ast.While, ast.For, ast.Return, ast.Break, ast.Continue, ast.Pass, ast.Raise, ast.Try,
    ast.ExceptHandler, ast.Expr, ast.Constant, ast.List, ast.Tuple, ast.Dict, ast.BinOp, ast.UnaryOp, ast.BoolOp,
    ast.Compare, ast.IfExp, ast.Call, ast.keyword, ast.Attribute, ast.Subscript, ast.Slice, ast.ListComp,
    ast.comprehension, ast.JoinedStr, ast.FormattedValue, ast.Lambda, ast.Name, ast.expr_context, ast.operator,
    ast.unaryop, ast.boolop, ast.cmpop,
)


def trees():
    return [(path, ast.parse(path.read_text(encoding="utf-8"))) for path in FILES]


def nodes():
    return [(path, node) for path, tree in trees() for node in ast.walk(tree)]


def bound_names(node):
    """The names that this node gives to something, if any."""
    if isinstance(node, ast.Name) and isinstance(node.ctx, ast.Store):
        return [node.id]
    if isinstance(node, ast.arg):
        return [node.arg]
    if isinstance(node, (ast.FunctionDef, ast.ClassDef)):
        return [node.name]
    return []


class Language(unittest.TestCase):
    def test_files(self):
        self.assertIn(PACKAGE / "__init__.py", FILES)
        others = [path for path in PACKAGE.iterdir() if path.name != "__pycache__"]
        self.assertEqual(sorted(others), FILES)
        for path in FILES:
            self.assertRegex(path.name, r"\A[a-z_][a-z0-9_]*\.py\Z")

    def test_signs_words_and_size(self):
        for path in FILES:
            text = path.read_text(encoding="utf-8")
            self.assertRegex(text, r"\A[ -~\n]*\Z", path)
            self.assertIsNone(BANNED_WORDS.search(text), path)
            self.assertLessEqual(len(text.splitlines()), 400, path)
            self.assertLessEqual(max(map(len, text.splitlines())), 120, path)
        for path, node in nodes():
            if isinstance(node, ast.FunctionDef):
                self.assertLessEqual(node.end_lineno - node.lineno + 1, 40, (path, node.name))

    def test_only_the_forms_that_are_allowed(self):
        for path, node in nodes():
            where = (path, getattr(node, "lineno", 0), type(node).__name__)
            self.assertIsInstance(node, ALLOWED, where)
            self.assertNotIsInstance(node, (ast.Div, ast.MatMult), where)
            if isinstance(node, ast.Constant):
                self.assertIn(type(node.value), (int, str, bool, type(None)), where)
                self.assertNotIn("%", str(node.value), where)
            if isinstance(node, (ast.FunctionDef, ast.ClassDef)):
                self.assertEqual(node.decorator_list, [], where)
            if isinstance(node, (ast.For, ast.While)):
                self.assertEqual(node.orelse, [], where)
            if isinstance(node, ast.ListComp):
                self.assertEqual(len(node.generators), 1, where)
                self.assertLessEqual(len(node.generators[0].ifs), 1, where)
            if isinstance(node, ast.Assign):
                self.assertEqual(len(node.targets), 1, where)
            if isinstance(node, ast.Expr):
                self.assertIsInstance(node.value, (ast.Call, ast.Constant), where)
            if isinstance(node, ast.arguments):
                self.assertEqual((node.vararg, node.kwarg, node.kwonlyargs), (None, None, []), where)
            if isinstance(node, ast.BinOp) and isinstance(node.op, ast.Pow):
                self.assertIsInstance(node.right, ast.Constant, where)
            if isinstance(node, ast.Compare):
                for operator, right in zip(node.ops, node.comparators):
                    if isinstance(operator, (ast.Is, ast.IsNot)):
                        self.assertIsInstance(right, ast.Constant, where)

    def test_imports(self):
        drawn = {}
        for path, tree in trees():
            rows = [node for node in ast.walk(tree) if isinstance(node, ast.ImportFrom)]
            drawn[path.stem] = [node.module.split(".")[1] for node in rows]
            for node in rows:
                self.assertIn(node, tree.body, path)
                self.assertEqual((node.level, node.module.split(".")[0]), (0, "cardclaims"), path)
                source = ast.parse((PACKAGE / (node.module.split(".")[1] + ".py")).read_text())
                defined = [name for row in source.body for part in ([row] if hasattr(row, "name") else ast.walk(row))
                           for name in bound_names(part)]
                for alias in node.names:
                    self.assertIn(alias.name, defined, path)
        done = []
        while len(done) < len(drawn):
            ready = [name for name in drawn if name not in done and all(other in done for other in drawn[name])]
            self.assertNotEqual(ready, [], "files draw from one another")
            done += ready

    def test_tops_of_modules(self):
        for path, tree in trees():
            self.assertIsInstance(tree.body[0].value, ast.Constant, path)
            names = [name for row in tree.body if not isinstance(row, ast.Assign) for name in bound_names(row)]
            for row in tree.body[1:]:
                self.assertIsInstance(row, (ast.ImportFrom, ast.FunctionDef, ast.ClassDef, ast.Assign), path)
                if isinstance(row, ast.Assign):
                    names.append(row.targets[0].id)
                    self.assertNotIn(ast.Call, [type(node) for node in ast.walk(row.value)], path)
            self.assertEqual(len(set(names)), len(names), path)

    def test_names(self):
        for path, tree in trees():
            imported = {alias.name for node in ast.walk(tree) if isinstance(node, ast.ImportFrom)
                        for alias in node.names}
            classes = {node.name for node in tree.body if isinstance(node, ast.ClassDef)}
            for node in ast.walk(tree):
                for name in bound_names(node):
                    where = (path, node.lineno, name)
                    self.assertNotIn(name, BUILT_IN | BANNED_NAMES | imported, where)
                    if not isinstance(node, ast.ClassDef):
                        self.assertNotIn(name, classes, where)
                    if name != "__init__":
                        self.assertRegex(name, r"\A[A-Za-z][A-Za-z0-9_]*\Z", where)

    def test_names_that_are_read_are_known(self):
        for path, tree in trees():
            known = set(BUILT_IN)
            for node in ast.walk(tree):
                known.update(bound_names(node))
                if isinstance(node, ast.ImportFrom):
                    known.update(alias.name for alias in node.names)
            for node in ast.walk(tree):
                if isinstance(node, ast.Name):
                    self.assertIn(node.id, known, (path, node.lineno))
                    self.assertNotIn(node.id, BANNED_NAMES, (path, node.lineno))

    def test_methods_and_values(self):
        methods = set()
        values = set()
        for path, node in nodes():
            if isinstance(node, ast.ClassDef):
                methods.update(row.name for row in node.body if isinstance(row, ast.FunctionDef))
            if isinstance(node, ast.Attribute) and isinstance(node.ctx, ast.Store):
                values.add(node.attr)
        self.assertEqual(methods & values, set())
        for path, node in nodes():
            if isinstance(node, ast.Call) and isinstance(node.func, ast.Attribute):
                self.assertIn(node.func.attr, OWN_METHODS | methods, (path, node.lineno))

    def test_sets_are_not_kept(self):
        for path, tree in trees():
            beside = [arg for node in ast.walk(tree) if isinstance(node, ast.Call) and isinstance(node.func, ast.Name)
                      and node.func.id in ("len", "sorted") for arg in node.args]
            for node in ast.walk(tree):
                if isinstance(node, ast.Call) and isinstance(node.func, ast.Name) and node.func.id == "set":
                    self.assertIn(node, beside, (path, node.lineno))


if __name__ == "__main__":
    unittest.main()
