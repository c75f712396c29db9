"""The package keeps to a small part of Python; what of that a look at the source can tell is held here.

With nothing imported but the package's own files, and none of Python's own names but those listed, no clock,
chance, file or network can be reached: so this holds that part of point 1 too.
"""

import ast
import builtins
import pathlib
import re
import unittest

PACKAGE = pathlib.Path(__file__).resolve().parent.parent / "closering"
SOURCES = {path: path.read_text(encoding="utf-8") for path in sorted(PACKAGE.rglob("*.py"))}
TREES = {path: ast.parse(source) for path, source in SOURCES.items()}

OWN_NAMES = set("""len range enumerate zip min max sum abs sorted reversed int str bool list tuple dict set frozenset
isinstance ord repr any all divmod Exception ValueError TypeError KeyError IndexError LookupError ZeroDivisionError
ArithmeticError OverflowError RuntimeError NotImplementedError AttributeError StopIteration""".split())

STATEMENTS = (ast.Assign, ast.AugAssign, ast.If, ast.While, ast.For, ast.Return, ast.Break, ast.Continue, ast.Pass,
              ast.Raise, ast.Try, ast.Expr, ast.FunctionDef, ast.ClassDef, ast.ImportFrom)

NO_EXPRESSIONS = (ast.SetComp, ast.DictComp, ast.GeneratorExp, ast.NamedExpr, ast.Starred, ast.Await, ast.Yield,
                  ast.YieldFrom, ast.Div, ast.MatMult)

METHODS = set("""__init__ __eq__ __repr__ __str__ __len__""".split())

VALUE_METHODS = set("""append clear copy count endswith extend find get index insert isalnum isalpha isdigit islower
isspace isupper items join keys ljust lower lstrip partition pop remove replace reverse rfind rjust rpartition rsplit
rstrip setdefault split splitlines startswith strip update upper values zfill bit_length""".split())

NO_WORDS = re.compile(r"\b(type|typing|typing_extensions|enum|Enum|IntEnum|StrEnum|Flag|IntFlag|Generic|Protocol|ABC"
                      r"|ABCMeta|namedtuple|NamedTuple|TypedDict|TYPE_CHECKING|abstractmethod)\b"
                      r"|dataclass|overload|contextmanager")


def nodes(kind):
    return [(path, node) for path, tree in TREES.items() for node in ast.walk(tree) if isinstance(node, kind)]


def bound_names(node):
    if isinstance(node, (ast.FunctionDef, ast.ClassDef)):
        return [node.name]
    if isinstance(node, ast.arg):
        return [node.arg]
    if isinstance(node, ast.Name) and isinstance(node.ctx, ast.Store):
        return [node.id]
    return []


class TheLanguage(unittest.TestCase):
    def test_the_package_holds_plain_files_alone(self):
        self.assertTrue((PACKAGE / "__init__.py").is_file())
        for path in PACKAGE.rglob("*"):
            if path.name != "__pycache__" and path.parent.name != "__pycache__":
                self.assertRegex(path.name, r"\A(__init__|__main__|[a-z][a-z0-9_]*)\.py\Z")

    def test_signs_and_sizes(self):
        for path, source in SOURCES.items():
            self.assertRegex(source, r"\A[ -~\n]*\Z", path)
            self.assertIsNone(NO_WORDS.search(source), path)
            self.assertLessEqual(len(source.splitlines()), 400, path)
            self.assertLessEqual(max(len(line) for line in source.splitlines()), 120, path)
        for path, node in nodes(ast.FunctionDef):
            self.assertLessEqual(node.end_lineno - node.lineno + 1, 40, (path, node.name))

    def test_imports_are_the_packages_own(self):
        for path, node in nodes((ast.Import, ast.ImportFrom)):
            self.assertIsInstance(node, ast.ImportFrom, path)
            self.assertEqual(node.level, 0, path)
            self.assertEqual(node.module.split(".")[0], "closering", path)
            self.assertIn(node, TREES[path].body, path)

    def test_statements_and_expressions(self):
        for path, node in nodes(ast.stmt):
            self.assertIsInstance(node, STATEMENTS, (path, node.lineno))
            if isinstance(node, ast.Assign):
                self.assertEqual(len(node.targets), 1, (path, node.lineno))
            if isinstance(node, (ast.For, ast.While)):
                self.assertEqual(node.orelse, [], (path, node.lineno))
            if isinstance(node, (ast.FunctionDef, ast.ClassDef)):
                self.assertEqual(node.decorator_list, [], (path, node.lineno))
        self.assertEqual(nodes(NO_EXPRESSIONS), [])
        for path, node in nodes(ast.Constant):
            self.assertNotIsInstance(node.value, (float, complex, bytes), (path, node.lineno))

    def test_names(self):
        for path, node in nodes(ast.Name):
            if hasattr(builtins, node.id):
                self.assertIn(node.id, OWN_NAMES, (path, node.lineno))
        for path, node in nodes(ast.AST):
            for name in bound_names(node):
                if name not in METHODS:
                    self.assertRegex(name, r"\A[A-Za-z][A-Za-z0-9_]*\Z", path)
                    self.assertFalse(hasattr(builtins, name), (path, name))

    def test_no_parameter_or_local_is_called_like_a_class_or_an_import_of_its_file(self):
        for path, tree in TREES.items():
            taken = {node.name for node in tree.body if isinstance(node, ast.ClassDef)}
            taken |= {name.name for node in tree.body if isinstance(node, ast.ImportFrom) for name in node.names}
            for home in ast.walk(tree):
                if isinstance(home, ast.FunctionDef):
                    local = {name for node in ast.walk(home) for name in bound_names(node)}
                    self.assertEqual(local & taken, set(), (path, home.name))

    def test_names_are_drawn_from_the_files_that_define_them_and_never_in_a_circle(self):
        drawn = {}
        for path, node in nodes(ast.ImportFrom):
            home = PACKAGE.joinpath(*node.module.split(".")[1:]).with_suffix(".py")
            drawn.setdefault(path, set()).add(home)
            defined = {name for top in TREES[home].body for name in bound_names(top)}
            defined |= {name.id for top in TREES[home].body if isinstance(top, ast.Assign) for name in top.targets}
            for name in node.names:
                self.assertIn(name.name, defined, path)
        left = set(SOURCES)
        while left:
            free = {path for path in left if not drawn.get(path, set()) & left}
            self.assertTrue(free, left)
            left -= free

    def test_called_methods(self):
        own = {node.name for path, node in nodes(ast.FunctionDef)}
        for path, node in nodes(ast.Call):
            if isinstance(node.func, ast.Attribute):
                self.assertIn(node.func.attr, VALUE_METHODS | own, (path, node.lineno))

    def test_is_stands_beside_none_true_and_false_alone(self):
        for path, node in nodes(ast.Compare):
            for sign, value in zip(node.ops, node.comparators):
                if isinstance(sign, (ast.Is, ast.IsNot)):
                    self.assertIsInstance(value, ast.Constant, (path, node.lineno))

    def test_no_name_is_a_method_and_a_value(self):
        methods = {node.name for path, home in nodes(ast.ClassDef) for node in home.body
                   if isinstance(node, ast.FunctionDef)}
        values = {node.attr for path, node in nodes(ast.Attribute) if isinstance(node.ctx, ast.Store)}
        self.assertEqual(methods & values, set())


if __name__ == "__main__":
    unittest.main()
