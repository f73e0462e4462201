"""The form of the package's files: the part of Python that the program keeps to."""

import ast
import builtins
import pathlib
import re
import unittest

PACKAGE = pathlib.Path(__file__).resolve().parent.parent / "groundseen"
OWN_NAMES = set("""len range enumerate zip min max sum abs sorted reversed int str bool list tuple dict set frozenset
    isinstance ord repr any all divmod KeyError ZeroDivisionError StopIteration ValueError LookupError IndexError
    Exception TypeError ArithmeticError OverflowError RuntimeError NotImplementedError""".split())
METHODS = set("""append clear copy count endswith extend find get index insert isalnum isalpha isdigit islower isspace
    isupper items join keys ljust lower lstrip partition pop remove replace reverse rfind rjust rpartition rsplit rstrip
    setdefault split splitlines startswith strip update upper values zfill bit_length""".split())
WORDS = re.compile(r"\b(type|typing|typing_extensions|enum|Enum|IntEnum|StrEnum|Flag|IntFlag|Generic|Protocol|ABC"
                   r"|ABCMeta|namedtuple|NamedTuple|TypedDict|TYPE_CHECKING|abstractmethod)\b"
                   r"|dataclass|overload|contextmanager")
STATEMENTS = (ast.Module, ast.FunctionDef, ast.ClassDef, ast.Assign, ast.AugAssign, ast.If, ast.While, ast.For,
              ast.Return, ast.Break, ast.Continue, ast.Pass, ast.Raise, ast.Try, ast.ExceptHandler, ast.Expr,
              ast.ImportFrom)
NOT_AS_NAMES = set("""attrgetter breakpoint builtins compile copyright credits delattr dir eval exec exit gc getattr
    globals hasattr help id importlib license locals methodcaller os quit setattr super type vars sys register mro
    elements open input version_info with_traceback add_note chr print""".split())
WALKED = ("zip", "enumerate", "reversed", "range")
WALKERS = ("list", "tuple", "dict", "sorted", "sum", "any", "all", "enumerate", "zip", "min", "max")
VALUES_OF_PYTHONS_OWN = {name for kind in (str, int, list, dict, set, bytes, tuple) for name in dir(kind)}
FREE_AS_VALUES = set("count index title find get join lower upper split strip copy add".split())
OUT = (ast.SetComp, ast.DictComp, ast.GeneratorExp, ast.NamedExpr, ast.Starred, ast.Div, ast.MatMult, ast.Await,
       ast.Yield, ast.YieldFrom, ast.Lambda)


def files():
    return sorted(path for path in PACKAGE.rglob("*") if "__pycache__" not in path.parts)


def trees():
    return [(path.name, ast.parse(path.read_text(encoding="ascii"))) for path in files()]


def nodes(kind):
    return [(name, node) for name, tree in trees() for node in ast.walk(tree) if isinstance(node, kind)]


def parts(tree, kind):
    return [node for node in ast.walk(tree) if isinstance(node, kind)]


def bound_names(tree):
    """The names bound at a file's top, each as often as it is bound."""
    names = []
    for node in tree.body:
        if isinstance(node, ast.ImportFrom):
            names += [alias.asname or alias.name for alias in node.names]
        elif isinstance(node, (ast.FunctionDef, ast.ClassDef)):
            names.append(node.name)
        elif isinstance(node, ast.Assign):
            names += [target.id for target in node.targets]
    return names


class Form(unittest.TestCase):
    def test_files(self):
        for path in files():
            self.assertRegex(path.name, r"^(__init__|[a-z][a-z0-9_]*)\.py$")
            rows = path.read_bytes().decode("ascii").split("\n")
            self.assertLessEqual(len(rows), 400, path.name)
            for row in rows:
                self.assertLessEqual(len(row), 120, path.name)
                self.assertRegex(row, r"^[ -~]*$", path.name)
                self.assertIsNone(WORDS.search(row), f"{path.name}: {row}")

    def test_functions_are_short(self):
        for name, node in nodes(ast.FunctionDef):
            self.assertLessEqual(node.end_lineno - node.lineno + 1, 40, f"{name}: {node.name}")

    def test_imports_are_the_packages_own(self):
        for name, node in nodes((ast.Import, ast.ImportFrom)):
            self.assertIsInstance(node, ast.ImportFrom, name)
            self.assertTrue(node.level == 0 and node.module.startswith("groundseen."), f"{name}: {node.lineno}")

    def test_statements(self):
        for name, node in nodes(ast.stmt):
            self.assertIsInstance(node, STATEMENTS, f"{name}: {node.lineno}")
        for name, node in nodes(OUT):
            self.fail(f"{name}: {node.lineno}: {node}")
        for name, node in nodes(ast.Constant):
            self.assertIn(type(node.value), (int, str, bool, type(None)), f"{name}: {node.lineno}")

    def test_names_of_pythons_own(self):
        for name, node in nodes(ast.Name):
            if hasattr(builtins, node.id):
                self.assertIn(node.id, OWN_NAMES, f"{name}: {node.lineno}")
                self.assertIsInstance(node.ctx, ast.Load, f"{name}: {node.lineno}")
            self.assertFalse(node.id.startswith("_"), f"{name}: {node.lineno}")
        for name, node in nodes(ast.arg):
            self.assertFalse(hasattr(builtins, node.arg) or node.arg.startswith("_"), f"{name}: {node.lineno}")

    def test_methods(self):
        own = {node.name for name, node in nodes(ast.FunctionDef)}
        for name, node in nodes(ast.Call):
            if isinstance(node.func, ast.Attribute):
                self.assertIn(node.func.attr, own | METHODS, f"{name}: {node.lineno}")

    def test_no_name_is_both_a_method_and_a_value(self):
        stored = {node.attr for name, node in nodes(ast.Attribute) if isinstance(node.ctx, ast.Store)}
        methods = {item.name for name, node in nodes(ast.ClassDef) for item in node.body}
        self.assertEqual(stored & methods, set())

    def test_the_top_of_a_file(self):
        for name, tree in trees():
            self.assertIsNotNone(ast.get_docstring(tree), name)
            for node in tree.body[1:]:
                self.assertIsInstance(node, (ast.ImportFrom, ast.FunctionDef, ast.ClassDef, ast.Assign), name)
                # A list or dict there could be changed and so keep something: tuples can't.
                if isinstance(node, ast.Assign):
                    self.assertEqual(parts(node, (ast.List, ast.Dict, ast.Call)), [], name)
            self.assertEqual(len(bound_names(tree)), len(set(bound_names(tree))), name)

    def test_imports_come_from_the_file_that_defines_the_name(self):
        files = dict(trees())
        for name, tree in files.items():
            for node in parts(tree, ast.ImportFrom):
                source = files[node.module.split(".")[1] + ".py"]
                drawn = [alias.name for part in parts(source, ast.ImportFrom) for alias in part.names]
                for alias in node.names:
                    self.assertIn(alias.name, set(bound_names(source)) - set(drawn), name)
                    self.assertIsNone(alias.asname, name)

    def test_no_two_files_draw_from_one_another(self):
        draws = {name: {node.module.split(".")[1] + ".py" for node in parts(tree, ast.ImportFrom)}
                 for name, tree in trees()}
        while draws:
            ends = [name for name in draws if not draws[name] & set(draws)]
            self.assertTrue(ends, draws)
            draws = {name: drawn for name, drawn in draws.items() if name not in ends}

    def test_functions_are_plain(self):
        for name, node in nodes(ast.FunctionDef):
            told = node.args
            self.assertFalse(told.vararg or told.kwarg or told.kwonlyargs or told.posonlyargs or told.defaults, name)
            self.assertFalse(node.decorator_list or node.returns or [arg for arg in told.args if arg.annotation], name)

    def test_classes_are_plain(self):
        for name, node in nodes(ast.ClassDef):
            self.assertFalse(node.decorator_list or node.keywords or node.bases, name)
            methods = [item.name for item in node.body if isinstance(item, ast.FunctionDef)]
            self.assertEqual(len(methods), len(node.body), f"{name}: {node.name}")
            self.assertEqual(len(methods), len(set(methods)), f"{name}: {node.name}")

    def test_assignments_and_loops(self):
        for name, node in nodes(ast.Assign):
            self.assertEqual(len(node.targets), 1, f"{name}: {node.lineno}")
            self.assertNotIsInstance(node.targets[0], (ast.Tuple, ast.List), f"{name}: {node.lineno}")
        for name, node in nodes((ast.For, ast.While)):
            self.assertEqual(node.orelse, [], f"{name}: {node.lineno}")
        for name, node in nodes(ast.ListComp):
            self.assertTrue(len(node.generators) == 1 and len(node.generators[0].ifs) <= 1, f"{name}: {node.lineno}")

    def test_is_stands_beside_none_true_and_false_alone(self):
        for name, node in nodes(ast.Compare):
            for sign, right in zip(node.ops, node.comparators):
                if isinstance(sign, (ast.Is, ast.IsNot)):
                    self.assertTrue(isinstance(right, ast.Constant) and right.value in (None, True, False), name)

    def test_names_are_plain(self):
        for name, tree in trees():
            kept = {alias.name for node in parts(tree, ast.ImportFrom) for alias in node.names}
            kept |= {node.name for node in parts(tree, ast.ClassDef)}
            local = {node.arg for node in parts(tree, ast.arg)}
            local |= {node.id for node in parts(tree, ast.Name) if isinstance(node.ctx, ast.Store)}
            self.assertEqual(local & kept, set(), name)
            used = local | {node.id for node in parts(tree, ast.Name)} | set(bound_names(tree))
            self.assertEqual(used & NOT_AS_NAMES, set(), name)
            for one in used:
                self.assertRegex(one, r"^[A-Za-z][A-Za-z0-9_]*$", name)

    def test_values_of_objects_are_not_called_like_pythons_own(self):
        stored = {node.attr for name, node in nodes(ast.Attribute) if isinstance(node.ctx, ast.Store)}
        self.assertEqual(stored & (VALUES_OF_PYTHONS_OWN - FREE_AS_VALUES), set())

    def test_walked_at_once(self):
        for name, tree in trees():
            on_the_spot = [node.iter for node in parts(tree, (ast.For, ast.comprehension))]
            on_the_spot += [node.args[0] for node in parts(tree, ast.Call)
                            if isinstance(node.func, ast.Name) and node.func.id in WALKERS and node.args]
            for node in parts(tree, ast.Call):
                called = getattr(node.func, "id", None) or getattr(node.func, "attr", None)
                if called in WALKED or called in ("items", "keys", "values"):
                    self.assertIn(node, on_the_spot, f"{name}: {node.lineno}")

    def test_no_sets(self):
        for name, node in nodes((ast.Set, ast.Name)):
            self.assertFalse(isinstance(node, ast.Set) or node.id in ("set", "frozenset"), f"{name}: {node.lineno}")


if __name__ == "__main__":
    unittest.main()
