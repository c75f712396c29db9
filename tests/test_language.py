"""The package keeps to a small part of Python; what of that a look at the source can tell is held here.

With nothing imported but the package's own files, and none of Python's own names but those listed, no clock,
chance, file or network can be reached: so this holds that part of point 1 too.
"""

import ast
import builtins
import pathlib
import re
import unittest

PACKAGE = pathlib.Path(__file__).resolve().parent.parent / "closering"
SOURCES = {path: path.read_text(encoding="utf-8") for path in sorted(PACKAGE.rglob("*.py"))}
TREES = {path: ast.parse(source) for path, source in SOURCES.items()}

OWN_NAMES = set("""len range enumerate zip min max sum abs sorted reversed int str bool list tuple dict set frozenset
isinstance ord repr any all divmod Exception ValueError TypeError KeyError IndexError LookupError ZeroDivisionError
ArithmeticError OverflowError RuntimeError NotImplementedError AttributeError StopIteration""".split())

STATEMENTS = (ast.Assign, ast.AugAssign, ast.If, ast.While, ast.For, ast.Return, ast.Break, ast.Continue, ast.Pass,
              ast.Raise, ast.Try, ast.Expr, ast.FunctionDef, ast.ClassDef, ast.ImportFrom)

NO_EXPRESSIONS = (ast.SetComp, ast.DictComp, ast.GeneratorExp, ast.NamedExpr, ast.Starred, ast.Await, ast.Yield,
                  ast.YieldFrom, ast.Div, ast.MatMult)

METHODS = set("""__init__ __eq__ __repr__ __str__ __len__""".split())

NO_WORDS = re.compile(r"\b(type|typing|typing_extensions|enum|Enum|IntEnum|StrEnum|Flag|IntFlag|Generic|Protocol|ABC"
                      r"|ABCMeta|namedtuple|NamedTuple|TypedDict|TYPE_CHECKING|abstractmethod)\b"
                      r"|dataclass|overload|contextmanager")


def nodes(kind):
    return [(path, node) for path, tree in TREES.items() for node in ast.walk(tree) if isinstance(node, kind)]


def bound_names(node):
    if isinstance(node, (ast.FunctionDef, ast.ClassDef)):
        return [node.name]
    if isinstance(node, ast.arg):
        return [node.arg]
    if isinstance(node, ast.Name) and isinstance(node.ctx, ast.Store):
        return [node.id]
    return []


class TheLanguage(unittest.TestCase):
    def test_the_package_holds_plain_files_alone(self):
        self.assertTrue((PACKAGE / "__init__.py").is_file())
        for path in PACKAGE.rglob("*"):
            if path.name != "__pycache__" and path.parent.name != "__pycache__":
                self.assertRegex(path.name, r"\A(__init__|__main__|[a-z][a-z0-9_]*)\.py\Z")

    def test_signs_and_sizes(self):
        for path, source in SOURCES.items():
            self.assertRegex(source, r"\A[ -~\n]*\Z", path)
            self.assertIsNone(NO_WORDS.search(source), path)
            self.assertLessEqual(len(source.splitlines()), 400, path)
            self.assertLessEqual(max(len(line) for line in source.splitlines()), 120, path)
        for path, node in nodes(ast.FunctionDef):
            self.assertLessEqual(node.end_lineno - node.lineno + 1, 40, (path, node.name))

    def test_imports_are_the_packages_own(self):
        for path, node in nodes((ast.Import, ast.ImportFrom)):
            self.assertIsInstance(node, ast.ImportFrom, path)
            self.assertEqual(node.level, 0, path)
            self.assertEqual(node.module.split(".")[0], "closering", path)
            self.assertIn(node, TREES[path].body, path)

    def test_statements_and_expressions(self):
        for path, node in nodes(ast.stmt):
            self.assertIsInstance(node, STATEMENTS, (path, node.lineno))
            if isinstance(node, ast.Assign):
                self.assertEqual(len(node.targets), 1, (path, node.lineno))
            if isinstance(node, (ast.For, ast.While)):
                self.assertEqual(node.orelse, [], (path, node.lineno))
            if isinstance(node, (ast.FunctionDef, ast.ClassDef)):
                self.assertEqual(node.decorator_list, [], (path, node.lineno))
        self.assertEqual(nodes(NO_EXPRESSIONS), [])
        for path, node in nodes(ast.Constant):
            self.assertNotIsInstance(node.value, (float, complex, bytes), (path, node.lineno))

    def test_names(self):
        for path, node in nodes(ast.Name):
            if hasattr(builtins, node.id):
                self.assertIn(node.id, OWN_NAMES, (path, node.lineno))
        for path, node in nodes(ast.AST):
            for name in bound_names(node):
                if name not in METHODS:
                    self.assertRegex(name, r"\A[A-Za-z][A-Za-z0-9_]*\Z", path)
                    self.assertFalse(hasattr(builtins, name), (path, name))

    def test_no_name_is_a_method_and_a_value(self):
        methods = {node.name for path, home in nodes(ast.ClassDef) for node in home.body
                   if isinstance(node, ast.FunctionDef)}
        values = {node.attr for path, node in nodes(ast.Attribute) if isinstance(node.ctx, ast.Store)}
        self.assertEqual(methods & values, set())


if __name__ == "__main__":
    unittest.main()
