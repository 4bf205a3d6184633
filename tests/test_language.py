"""The package keeps to the part of Python that it is written in (the rules that can be seen in the files)."""

import ast
import builtins
import pathlib
import re
import unittest

PACKAGE = pathlib.Path(__file__).resolve().parent.parent / "dealboards"

STATEMENTS = (ast.Assign, ast.AugAssign, ast.If, ast.While, ast.For, ast.Return, ast.Break, ast.Continue, ast.Pass,
              ast.Raise, ast.Try, ast.Expr, ast.FunctionDef, ast.ClassDef, ast.ImportFrom)
EXPRESSIONS = (ast.BinOp, ast.UnaryOp, ast.BoolOp, ast.Compare, ast.IfExp, ast.Call, ast.Attribute, ast.Subscript,
               ast.Slice, ast.ListComp, ast.Name, ast.Constant, ast.List, ast.Tuple, ast.Dict, ast.Lambda, ast.Set,
               ast.JoinedStr, ast.FormattedValue)
ALLOWED_NAMES = set("""len range enumerate zip min max sum abs sorted reversed int str bool list tuple dict set
frozenset isinstance ord repr any all divmod Exception ValueError TypeError KeyError IndexError LookupError
ZeroDivisionError ArithmeticError OverflowError RuntimeError NotImplementedError StopIteration""".split())
METHODS = set("""append clear copy count endswith extend find get index insert isalnum isalpha isdigit islower isspace
isupper items join keys ljust lower lstrip partition pop remove replace reverse rfind rjust rpartition rsplit rstrip
setdefault split splitlines startswith strip update upper values zfill bit_length""".split())
FORBIDDEN_WORDS = re.compile(
    r"\b(type|typing|typing_extensions|enum|Enum|IntEnum|StrEnum|Flag|IntFlag|Generic|Protocol|ABC|ABCMeta|namedtuple"
    r"|NamedTuple|TypedDict|TYPE_CHECKING|abstractmethod)\b|dataclass|overload|contextmanager")
FORBIDDEN_NAMES = set("""register mro elements open input version_info with_traceback add_note attrgetter breakpoint
builtins compile copyright credits delattr dir eval exec exit gc getattr globals hasattr help id importlib license
locals methodcaller os quit setattr super type vars sys format format_map""".split())
PYTHONS_OWN = set(dir(builtins))


def trees():
    for path in sorted(PACKAGE.glob("*.py")):
        yield path, ast.parse(path.read_text())


def bound_names(tree):
    for node in ast.walk(tree):
        if isinstance(node, ast.Name) and isinstance(node.ctx, ast.Store):
            yield node.id
        elif isinstance(node, (ast.FunctionDef, ast.ClassDef)):
            yield node.name
        elif isinstance(node, ast.arg):
            yield node.arg
        elif isinstance(node, ast.ExceptHandler) and node.name:
            yield node.name
        elif isinstance(node, ast.Attribute) and isinstance(node.ctx, ast.Store):
            yield node.attr


def local_names(tree):
    for function in ast.walk(tree):
        if isinstance(function, ast.FunctionDef):
            for node in ast.walk(function):
                if isinstance(node, ast.Name) and isinstance(node.ctx, ast.Store):
                    yield node.id
                elif isinstance(node, ast.arg):
                    yield node.arg


class Language(unittest.TestCase):

    def test_files(self):
        entries = [path for path in PACKAGE.iterdir() if path.name != "__pycache__"]
        self.assertIn("__init__.py", [path.name for path in entries])
        for path in entries:
            self.assertRegex(path.name, r"^([a-z][a-z0-9_]*|__init__|__main__)\.py$")

    def test_signs_and_sizes(self):
        for path in sorted(PACKAGE.glob("*.py")):
            content = path.read_bytes()
            self.assertTrue(all(byte == 10 or 32 <= byte <= 126 for byte in content), path)
            lines = content.decode("ascii").splitlines()
            self.assertLessEqual(len(lines), 400, path)
            self.assertLessEqual(max([len(line) for line in lines]), 120, path)
            self.assertIsNone(FORBIDDEN_WORDS.search(content.decode("ascii")), path)

    def test_function_sizes(self):
        for path, tree in trees():
            for node in ast.walk(tree):
                if isinstance(node, ast.FunctionDef):
                    self.assertLessEqual(node.end_lineno - node.lineno + 1, 40, (path, node.name))

    def test_imports(self):
        for path, tree in trees():
            for node in ast.walk(tree):
                self.assertNotIsInstance(node, ast.Import, path)
                if isinstance(node, ast.ImportFrom):
                    self.assertEqual(node.level, 0)
                    self.assertRegex(node.module, r"^dealboards\.[a-z_]+$")
                    self.assertIn(node, tree.body)
                    source = ast.parse((PACKAGE / (node.module.split(".")[1] + ".py")).read_text())
                    own = [name for entry in source.body for name in bound_names(entry)]
                    for alias in node.names:
                        self.assertIsNone(alias.asname)
                        self.assertIn(alias.name, own)

    def test_statements_and_expressions(self):
        for path, tree in trees():
            for node in ast.walk(tree):
                where = (path, getattr(node, "lineno", None))
                if isinstance(node, ast.stmt):
                    self.assertIsInstance(node, STATEMENTS, where)
                elif isinstance(node, ast.expr):
                    self.assertIsInstance(node, EXPRESSIONS, where)
                self.check_narrow(node, where)

    def check_narrow(self, node, where):
        if isinstance(node, ast.Assign):
            self.assertEqual(len(node.targets), 1, where)
        if isinstance(node, (ast.For, ast.While)):
            self.assertEqual(node.orelse, [], where)
        if isinstance(node, ast.Try):
            self.assertEqual(node.finalbody, [], where)
        if isinstance(node, ast.Constant):
            self.assertIsInstance(node.value, (int, str, type(None)), where)
            self.assertNotIn("%", str(node.value), where)
        if isinstance(node, ast.ListComp):
            self.assertEqual(len(node.generators), 1, where)
            self.assertLessEqual(len(node.generators[0].ifs), 1, where)
        if isinstance(node, (ast.Div, ast.Starred)):
            self.fail(where)
        if isinstance(node, (ast.FunctionDef, ast.ClassDef)):
            self.assertEqual(node.decorator_list, [], where)
        if isinstance(node, ast.arguments):
            self.assertEqual((node.vararg, node.kwarg, node.kwonlyargs, node.posonlyargs), (None, None, [], []), where)
        if isinstance(node, ast.Compare) and any(isinstance(op, (ast.Is, ast.IsNot)) for op in node.ops):
            self.assertIn(getattr(node.comparators[0], "value", 0), (None, True, False), where)

    def test_names(self):
        for path, tree in trees():
            for name in bound_names(tree):
                if name != "__init__":
                    self.assertRegex(name, r"^[A-Za-z][A-Za-z0-9_]*$", path)
                self.assertNotIn(name, FORBIDDEN_NAMES, path)
            imported = [alias.name for node in tree.body if isinstance(node, ast.ImportFrom) for alias in node.names]
            classes = [node.name for node in tree.body if isinstance(node, ast.ClassDef)]
            for name in local_names(tree):
                self.assertNotIn(name, PYTHONS_OWN, path)
                self.assertNotIn(name, imported + classes, path)
            for node in ast.walk(tree):
                if isinstance(node, ast.Name) and isinstance(node.ctx, ast.Load) and node.id in PYTHONS_OWN:
                    self.assertIn(node.id, ALLOWED_NAMES, (path, node.lineno))

    def test_methods(self):
        own = set()
        for path, tree in trees():
            for node in ast.walk(tree):
                if isinstance(node, ast.ClassDef):
                    own.update(entry.name for entry in node.body if isinstance(entry, ast.FunctionDef))
        stored = set()
        for path, tree in trees():
            for node in ast.walk(tree):
                if isinstance(node, ast.Call) and isinstance(node.func, ast.Attribute):
                    self.assertIn(node.func.attr, own | METHODS, (path, node.lineno))
                if isinstance(node, ast.Attribute) and isinstance(node.ctx, ast.Store):
                    stored.add(node.attr)
        self.assertEqual(own & stored, set())
        for name in own | stored:
            for value in ("", 0, [], {}, set(), b""):
                self.assertTrue(name == "__init__" or not hasattr(value, name), name)

    def test_top_of_a_file(self):
        for path, tree in trees():
            self.assertIsInstance(tree.body[0], ast.Expr, path)
            for node in tree.body[1:]:
                self.assertIsInstance(node, (ast.ImportFrom, ast.FunctionDef, ast.ClassDef, ast.Assign), path)
            names = [node.targets[0].id for node in tree.body if isinstance(node, ast.Assign)]
            names += [node.name for node in tree.body if isinstance(node, (ast.FunctionDef, ast.ClassDef))]
            self.assertEqual(len(names), len(set(names)), path)


if __name__ == "__main__":
    unittest.main()
