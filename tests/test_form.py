"""The form of the package's files: the part of Python that the program keeps to."""

import ast
import builtins
import pathlib
import re
import unittest

PACKAGE = pathlib.Path(__file__).resolve().parent.parent / "groundseen"
OWN_NAMES = set("""len range enumerate zip min max sum abs sorted reversed int str bool list tuple dict set frozenset
    isinstance ord repr any all divmod KeyError ZeroDivisionError StopIteration ValueError LookupError IndexError
    Exception TypeError ArithmeticError OverflowError RuntimeError NotImplementedError""".split())
METHODS = set("""append clear copy count endswith extend find get index insert isalnum isalpha isdigit islower isspace
    isupper items join keys ljust lower lstrip partition pop remove replace reverse rfind rjust rpartition rsplit rstrip
    setdefault split splitlines startswith strip update upper values zfill bit_length""".split())
WORDS = re.compile(r"\b(type|typing|typing_extensions|enum|Enum|IntEnum|StrEnum|Flag|IntFlag|Generic|Protocol|ABC"
                   r"|ABCMeta|namedtuple|NamedTuple|TypedDict|TYPE_CHECKING|abstractmethod)\b"
                   r"|dataclass|overload|contextmanager")
STATEMENTS = (ast.Module, ast.FunctionDef, ast.ClassDef, ast.Assign, ast.AugAssign, ast.If, ast.While, ast.For,
              ast.Return, ast.Break, ast.Continue, ast.Pass, ast.Raise, ast.Try, ast.ExceptHandler, ast.Expr,
              ast.ImportFrom)
OUT = (ast.SetComp, ast.DictComp, ast.GeneratorExp, ast.NamedExpr, ast.Starred, ast.Div, ast.MatMult, ast.Await,
       ast.Yield, ast.YieldFrom, ast.Lambda)


def files():
    return sorted(path for path in PACKAGE.rglob("*") if "__pycache__" not in path.parts)


def trees():
    return [(path.name, ast.parse(path.read_text(encoding="ascii"))) for path in files()]


def nodes(kind):
    return [(name, node) for name, tree in trees() for node in ast.walk(tree) if isinstance(node, kind)]


class Form(unittest.TestCase):
    def test_files(self):
        for path in files():
            self.assertRegex(path.name, r"^(__init__|[a-z][a-z0-9_]*)\.py$")
            rows = path.read_bytes().decode("ascii").split("\n")
            self.assertLessEqual(len(rows), 400, path.name)
            for row in rows:
                self.assertLessEqual(len(row), 120, path.name)
                self.assertRegex(row, r"^[ -~]*$", path.name)
                self.assertIsNone(WORDS.search(row), f"{path.name}: {row}")

    def test_functions_are_short(self):
        for name, node in nodes(ast.FunctionDef):
            self.assertLessEqual(node.end_lineno - node.lineno + 1, 40, f"{name}: {node.name}")

    def test_imports_are_the_packages_own(self):
        for name, node in nodes((ast.Import, ast.ImportFrom)):
            self.assertIsInstance(node, ast.ImportFrom, name)
            self.assertTrue(node.level == 0 and node.module.startswith("groundseen."), f"{name}: {node.lineno}")

    def test_statements(self):
        for name, node in nodes(ast.stmt):
            self.assertIsInstance(node, STATEMENTS, f"{name}: {node.lineno}")
        for name, node in nodes(OUT):
            self.fail(f"{name}: {node.lineno}: {node}")
        for name, node in nodes(ast.Constant):
            self.assertIn(type(node.value), (int, str, bool, type(None)), f"{name}: {node.lineno}")

    def test_names_of_pythons_own(self):
        for name, node in nodes(ast.Name):
            if hasattr(builtins, node.id):
                self.assertIn(node.id, OWN_NAMES, f"{name}: {node.lineno}")
                self.assertIsInstance(node.ctx, ast.Load, f"{name}: {node.lineno}")
            self.assertFalse(node.id.startswith("_"), f"{name}: {node.lineno}")
        for name, node in nodes(ast.arg):
            self.assertFalse(hasattr(builtins, node.arg) or node.arg.startswith("_"), f"{name}: {node.lineno}")

    def test_methods(self):
        own = {node.name for name, node in nodes(ast.FunctionDef)}
        for name, node in nodes(ast.Call):
            if isinstance(node.func, ast.Attribute):
                self.assertIn(node.func.attr, own | METHODS, f"{name}: {node.lineno}")

    def test_no_name_is_both_a_method_and_a_value(self):
        stored = {node.attr for name, node in nodes(ast.Attribute) if isinstance(node.ctx, ast.Store)}
        methods = {item.name for name, node in nodes(ast.ClassDef) for item in node.body}
        self.assertEqual(stored & methods, set())


if __name__ == "__main__":
    unittest.main()
