"""The package's own files keep to the rules of LANGUAGE.md that a look at their form can tell."""

import ast
import builtins
import pathlib
import re
import unittest

PACKAGE = pathlib.Path(__file__).resolve().parent.parent / "grindbench"
NODES = set("""
    Module Expr Constant alias ImportFrom FunctionDef arguments arg ClassDef Lambda Assign AugAssign If While For
    Return Break Continue Pass Raise Try ExceptHandler Call keyword Attribute Subscript Slice Name Load Store List
    Tuple Dict Set BinOp UnaryOp BoolOp Compare IfExp ListComp comprehension JoinedStr FormattedValue Add Sub Mult
    FloorDiv Mod Pow BitAnd BitOr BitXor LShift RShift Invert USub UAdd Not And Or Eq NotEq Lt LtE Gt GtE Is IsNot
    In NotIn
""".split())
BUILT_IN = set("""
    len range enumerate zip min max sum abs sorted reversed int str bool list tuple dict set frozenset isinstance ord
    repr any all divmod Exception ValueError TypeError KeyError IndexError LookupError ZeroDivisionError
    ArithmeticError OverflowError RuntimeError NotImplementedError AttributeError StopIteration
""".split())
METHODS = set("""
    append clear copy count endswith extend find get index insert isalnum isalpha isdigit islower isspace isupper
    items join keys ljust lower lstrip partition pop remove replace reverse rfind rjust rpartition rsplit rstrip
    setdefault split splitlines startswith strip update upper values zfill bit_length add discard __init__
""".split())
TWO_UNDERSCORES = {"__init__", "__eq__", "__repr__", "__str__", "__len__"}
WORDS = re.compile(
    r"\b(type|typing|typing_extensions|enum|Enum|IntEnum|StrEnum|Flag|IntFlag|Generic|Protocol|ABC|ABCMeta"
    r"|namedtuple|NamedTuple|TypedDict|TYPE_CHECKING|abstractmethod)\b|dataclass|overload|contextmanager"
)
PYTHONS_OWN = set(dir(builtins))
OF_VALUES = {name for kind in (str, int, list, tuple, dict, set, bytes) for name in dir(kind)}


def files():
    return sorted(PACKAGE.rglob("*.py"))


def nodes():
    return [(path, node) for path in files() for node in ast.walk(ast.parse(path.read_text(encoding="ascii")))]


def place(path, node):
    return f"{path.name}:{getattr(node, 'lineno', '?')}"


def bound_names(node):
    """The names that a node binds."""
    if isinstance(node, ast.Name) and isinstance(node.ctx, ast.Store):
        return [node.id]
    if isinstance(node, (ast.FunctionDef, ast.ClassDef)):
        return [node.name]
    if isinstance(node, ast.arg):
        return [node.arg]
    if isinstance(node, ast.Attribute) and isinstance(node.ctx, ast.Store):
        return [node.attr]
    return []


class LanguageTest(unittest.TestCase):
    def test_there_are_files_and_nothing_else(self):
        self.assertIn("__init__.py", [path.name for path in files()])
        for path in PACKAGE.rglob("*"):
            if "__pycache__" not in path.parts:
                self.assertTrue(path.is_dir() or re.fullmatch(r"[a-z0-9_]+\.py", path.name), path)

    def test_signs_and_sizes(self):
        for path in files():
            text = path.read_bytes().decode("ascii")
            rows = text.split("\n")
            self.assertLessEqual(len(rows), 401, path)
            self.assertIsNone(re.search(r"[^ -~\n]", text), path)
            self.assertIsNone(WORDS.search(text), path)
            for row in rows:
                self.assertLessEqual(len(row), 120, path)

    def test_kinds_of_nodes(self):
        for path, node in nodes():
            self.assertIn(type(node).__name__, NODES, place(path, node))

    def test_imports(self):
        for path, node in nodes():
            if isinstance(node, ast.ImportFrom):
                self.assertEqual(node.level, 0, place(path, node))
                self.assertTrue(node.module.startswith("grindbench."), place(path, node))
                self.assertNotEqual(node.names[0].name, "*", place(path, node))
                self.assertEqual(node.col_offset, 0, place(path, node))

    def test_functions_and_classes(self):
        for path, node in nodes():
            if isinstance(node, ast.FunctionDef):
                self.assertLessEqual(node.end_lineno - node.lineno + 1, 40, place(path, node))
                self.assertIsNone(node.args.vararg or node.args.kwarg, place(path, node))
                self.assertEqual(node.args.kwonlyargs + node.args.posonlyargs, [], place(path, node))
            if isinstance(node, (ast.FunctionDef, ast.ClassDef)):
                self.assertEqual(node.decorator_list, [], place(path, node))
            if isinstance(node, ast.ClassDef):
                self.assertLessEqual(len(node.bases), 1, place(path, node))

    def test_statements(self):
        for path, node in nodes():
            if isinstance(node, ast.Assign):
                self.assertEqual(len(node.targets), 1, place(path, node))
            if isinstance(node, (ast.For, ast.While)):
                self.assertEqual(node.orelse, [], place(path, node))
            if isinstance(node, ast.Try):
                self.assertEqual(node.finalbody, [], place(path, node))
            if isinstance(node, ast.ListComp):
                self.assertEqual(len(node.generators), 1, place(path, node))
                self.assertLessEqual(len(node.generators[0].ifs), 1, place(path, node))
            if isinstance(node, ast.Constant):
                self.assertNotIsInstance(node.value, (float, complex, bytes), place(path, node))
                if isinstance(node.value, str):
                    self.assertNotIn("%", node.value, place(path, node))

    def test_names(self):
        for path, node in nodes():
            for name in bound_names(node):
                if name not in TWO_UNDERSCORES:
                    self.assertRegex(name, r"\A[A-Za-z][A-Za-z0-9_]*\Z", place(path, node))
                if not isinstance(node, (ast.Attribute, ast.FunctionDef)):
                    self.assertNotIn(name, PYTHONS_OWN, place(path, node))
            if isinstance(node, ast.Name) and node.id in PYTHONS_OWN:
                self.assertIn(node.id, BUILT_IN, place(path, node))
            if isinstance(node, ast.Attribute) and node.attr in OF_VALUES:
                self.assertIn(node.attr, METHODS, place(path, node))

    def test_is_stands_beside_none_true_and_false(self):
        for path, node in nodes():
            if isinstance(node, ast.Compare) and isinstance(node.ops[0], (ast.Is, ast.IsNot)):
                beside = [getattr(one, "value", "") for one in [node.left, node.comparators[0]]]
                self.assertTrue(any(one is None or one is True or one is False for one in beside), place(path, node))

    def test_no_parameter_or_local_is_called_like_a_class_or_an_import_of_its_file(self):
        for path in files():
            top = ast.parse(path.read_text(encoding="ascii"))
            taken = {alias.name for row in top.body if isinstance(row, ast.ImportFrom) for alias in row.names}
            taken |= {row.name for row in top.body if isinstance(row, ast.ClassDef)}
            for node in ast.walk(top):
                if isinstance(node, (ast.Name, ast.arg)):
                    self.assertFalse(taken.intersection(bound_names(node)), place(path, node))

    def test_a_name_is_bound_once_at_a_files_top(self):
        for path in files():
            bound = []
            for row in ast.parse(path.read_text(encoding="ascii")).body:
                if isinstance(row, ast.ImportFrom):
                    bound += [alias.asname or alias.name for alias in row.names]
                elif isinstance(row, ast.Assign):
                    bound += bound_names(row.targets[0])
                else:
                    bound += bound_names(row)
            self.assertEqual(len(bound), len(set(bound)), path)

    def test_no_name_is_a_method_here_and_a_value_there(self):
        methods = set()
        values = set()
        for path, node in nodes():
            if isinstance(node, ast.ClassDef):
                methods |= {row.name for row in node.body if isinstance(row, ast.FunctionDef)}
            if isinstance(node, ast.Attribute) and isinstance(node.ctx, ast.Store):
                values.add(node.attr)
        self.assertEqual(methods & values, set())

    def test_no_two_files_draw_from_one_another(self):
        drawn = {}
        for path in files():
            drawn[f"grindbench.{path.stem}"] = {
                node.module for node in ast.walk(ast.parse(path.read_text(encoding="ascii")))
                if isinstance(node, ast.ImportFrom)
            }
        while drawn:
            free = [name for name in drawn if not drawn[name].intersection(drawn)]
            self.assertTrue(free, sorted(drawn))
            for name in free:
                del drawn[name]

    def test_names_are_drawn_from_the_file_that_defines_them(self):
        for path, node in nodes():
            if isinstance(node, ast.ImportFrom):
                source = PACKAGE / (node.module.partition(".")[2] + ".py")
                defined = [
                    name for row in ast.parse(source.read_text(encoding="ascii")).body
                    for name in bound_names(row.targets[0] if isinstance(row, ast.Assign) else row)
                ]
                for alias in node.names:
                    self.assertIn(alias.name, defined, place(path, node))


if __name__ == "__main__":
    unittest.main()
