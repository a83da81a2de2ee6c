"""Holds the package against a part of LANGUAGE.md: the rules below, as far as each test goes."""

import ast
import builtins
import pathlib
import re
import unittest

PACKAGE = pathlib.Path(__file__).resolve().parent.parent / "restform"
PATHS = sorted(path for path in PACKAGE.rglob("*") if "__pycache__" not in path.parts)

TOP = (ast.ImportFrom, ast.FunctionDef, ast.ClassDef, ast.Assign)
STATEMENTS = (
    ast.Assign, ast.AugAssign, ast.If, ast.While, ast.For, ast.Return, ast.Break, ast.Continue, ast.Pass,
    ast.Raise, ast.Try, ast.FunctionDef, ast.ClassDef, ast.ImportFrom, ast.Expr,
)
NOT_USED = (
    ast.Set, ast.SetComp, ast.DictComp, ast.GeneratorExp, ast.NamedExpr, ast.Starred, ast.Div, ast.MatMult,
    ast.Await, ast.Yield, ast.YieldFrom, ast.AnnAssign,
)
OWN_NAMES = set(
    "len range enumerate zip min max sum abs sorted reversed int str bool list tuple dict set frozenset isinstance "
    "ord repr any all divmod Exception ValueError TypeError KeyError IndexError LookupError ZeroDivisionError "
    "ArithmeticError OverflowError RuntimeError NotImplementedError AttributeError StopIteration".split()
)
METHODS = set(
    "append clear copy count endswith extend find get index insert isalnum isalpha isdigit islower isspace isupper "
    "items join keys ljust lower lstrip partition pop remove replace reverse rfind rjust rpartition rsplit rstrip "
    "setdefault split splitlines startswith strip update upper values zfill bit_length".split()
)
BUILT_IN = {name for name in vars(builtins) if not name.startswith("_")}
DOUBLE = {"__init__", "__eq__", "__repr__", "__str__", "__len__"}
WORDS = re.compile(
    r"\b(type|typing|typing_extensions|enum|Enum|IntEnum|StrEnum|Flag|IntFlag|Generic|Protocol|ABC|ABCMeta|namedtuple"
    r"|NamedTuple|TypedDict|TYPE_CHECKING|abstractmethod|register|mro|elements|open|input|version_info"
    r"|with_traceback|add_note)\b|dataclass|overload|contextmanager"
)
NOT_NAMES = set(
    "attrgetter breakpoint builtins compile copyright credits delattr dir eval exec exit gc getattr globals hasattr "
    "help id importlib license locals methodcaller os quit setattr super type vars sys chr print".split()
)


def code_files():
    return [path for path in PATHS if path.is_file()]


def each_node():
    for path in code_files():
        for node in ast.walk(ast.parse(path.read_text())):
            yield f"{path.name}:{getattr(node, 'lineno', 0)}", node


def bound_names(node):
    """The names that a node binds."""
    if isinstance(node, (ast.FunctionDef, ast.ClassDef)):
        return [node.name]
    if isinstance(node, ast.arg):
        return [node.arg]
    if isinstance(node, ast.Name) and isinstance(node.ctx, ast.Store):
        return [node.id]
    if isinstance(node, ast.Attribute) and isinstance(node.ctx, ast.Store):
        return [node.attr]
    if isinstance(node, ast.ExceptHandler) and node.name:
        return [node.name]
    return []


class Files(unittest.TestCase):
    def test_only_plain_files(self):
        self.assertIn(PACKAGE / "__init__.py", PATHS)
        for path in PATHS:
            self.assertTrue(path.is_file(), path)
            self.assertRegex(path.name, r"^([a-z][a-z0-9_]*|__init__)\.py$")
            self.assertNotRegex(path.name, r"^(tests?|testing|test_.*|site|conftest)\.py$")
            self.assertNotIn(path.stem, BUILT_IN)

    def test_signs_and_sizes(self):
        for path in code_files():
            text = path.read_bytes().decode("ascii")
            self.assertRegex(text, r"\A[ -~\n]*\Z", path)
            self.assertLessEqual(len(text.splitlines()), 400, path)
            self.assertLessEqual(max(map(len, text.splitlines()), default=0), 120, path)
            self.assertIsNone(WORDS.search(text), path)

    def test_functions_of_at_most_forty_lines(self):
        for place, node in each_node():
            if isinstance(node, ast.FunctionDef):
                self.assertLessEqual(node.end_lineno - node.lineno + 1, 40, place)


class Tops(unittest.TestCase):
    def test_what_stands_at_the_top(self):
        for path in code_files():
            body = ast.parse(path.read_text()).body
            if body and isinstance(body[0], ast.Expr) and isinstance(body[0].value, ast.Constant):
                body = body[1:]
            for node in body:
                self.assertIsInstance(node, TOP, path)
            names = [name for node in body for part in getattr(node, "targets", [node]) for name in bound_names(part)]
            self.assertEqual(len(names), len(set(names)), path)

    def test_names_of_the_top_have_plain_values(self):
        for path in code_files():
            for node in ast.parse(path.read_text()).body:
                if isinstance(node, ast.Assign):
                    ast.literal_eval(node.value)

    def drawn(self, path):
        """The files that a file draws from; each must define what is drawn."""
        found = []
        for node in ast.walk(ast.parse(path.read_text())):
            self.assertNotIsInstance(node, ast.Import, path)
            if isinstance(node, ast.ImportFrom):
                self.assertEqual(node.level, 0, path)
                self.assertRegex(node.module, r"^restform\.[a-z0-9_]+$")
                source = PACKAGE / (node.module.split(".")[1] + ".py")
                defined = [name for part in ast.parse(source.read_text()).body for name in bound_names(part)]
                for alias in node.names:
                    self.assertIn(alias.name, defined, path)
                    self.assertIsNone(alias.asname, path)
                found.append(source)
        return found

    def test_no_two_files_draw_from_one_another(self):
        left = {path: self.drawn(path) for path in code_files()}
        while left:
            free = [path for path in left if not any(source in left for source in left[path])]
            self.assertTrue(free, f"a ring among {sorted(left)}")
            for path in free:
                del left[path]


class Code(unittest.TestCase):
    def test_statements(self):
        for place, node in each_node():
            if isinstance(node, ast.stmt):
                self.assertIsInstance(node, STATEMENTS, place)
            self.assertNotIsInstance(node, NOT_USED, place)
            if isinstance(node, ast.Assign):
                self.assertEqual(len(node.targets), 1, place)
            if isinstance(node, (ast.For, ast.While)):
                self.assertEqual(node.orelse, [], place)
            if isinstance(node, ast.Try):
                self.assertEqual(node.finalbody, [], place)
            if isinstance(node, ast.ListComp):
                self.assertEqual(len(node.generators), 1, place)
                self.assertLessEqual(len(node.generators[0].ifs), 1, place)

    def test_calls_alone(self):
        for place, node in each_node():
            if isinstance(node, ast.Expr) and not isinstance(node.value, ast.Call):
                self.assertTrue(place.endswith(":1"), f"{place}: a docstring stands at a file's top alone")

    def test_functions_and_classes(self):
        for place, node in each_node():
            if isinstance(node, (ast.FunctionDef, ast.ClassDef)):
                self.assertEqual(node.decorator_list, [], place)
            if isinstance(node, ast.arguments):
                self.assertEqual(node.posonlyargs + node.kwonlyargs, [], place)
                self.assertIsNone(node.vararg or node.kwarg, place)
            if isinstance(node, ast.ClassDef):
                self.assertLessEqual(len(node.bases), 1, place)
                self.assertEqual(node.keywords, [], place)
                for part in node.body:
                    self.assertIsInstance(part, (ast.FunctionDef, ast.Pass), place)

    def test_names(self):
        for place, node in each_node():
            for name in bound_names(node):
                self.assertTrue(name in DOUBLE or not name.startswith("_"), f"{place}: {name}")
                self.assertNotIn(name, NOT_NAMES, place)
                if not isinstance(node, ast.Attribute):
                    self.assertNotIn(name, BUILT_IN, place)
            if isinstance(node, ast.Name) and node.id in BUILT_IN:
                self.assertIn(node.id, OWN_NAMES, place)
            if isinstance(node, ast.Name):
                self.assertNotIn(node.id, NOT_NAMES, place)

    def test_methods(self):
        known = {name for kind in (str, int, list, tuple, dict, set, bytes) for name in vars(kind)}
        for place, node in each_node():
            if isinstance(node, ast.Attribute) and node.attr in known:
                self.assertIn(node.attr, METHODS | DOUBLE, place)

    def test_values(self):
        for place, node in each_node():
            if isinstance(node, ast.Constant):
                self.assertIn(type(node.value), (int, str, bool, type(None)), place)
                self.assertFalse(isinstance(node.value, str) and "%" in node.value, place)
            if isinstance(node, ast.BinOp) and isinstance(node.op, ast.Pow):
                self.assertIsInstance(node.right, ast.Constant, place)
                self.assertIn(node.right.value, range(65), place)
            if isinstance(node, ast.Compare):
                for op, right in zip(node.ops, node.comparators):
                    if isinstance(op, (ast.Is, ast.IsNot)):
                        self.assertIn(getattr(right, "value", 0), (None, True, False), place)

    def test_f_strings_hold_plain_names(self):
        for place, node in each_node():
            if isinstance(node, ast.FormattedValue):
                self.assertIsInstance(node.value, ast.Name, place)
                self.assertIsNone(node.format_spec, place)
                self.assertIn(node.conversion, (-1, ord("r")), place)

    def test_walked_at_once(self):
        """What lies within reversed, and what is kept of range and its like, would be walked later."""
        lazy = ("range", "enumerate", "zip", "reversed")
        for place, node in each_node():
            if isinstance(node, (ast.Assign, ast.Return)) and isinstance(node.value, ast.Call):
                self.assertNotIn(getattr(node.value.func, "id", ""), lazy, place)
            if isinstance(node, ast.Call) and getattr(node.func, "id", "") == "reversed":
                self.assertNotIsInstance(node.args[0], ast.Call, place)


class Own(unittest.TestCase):
    """The program's own classes, names and errors (L13, L15, L18, L19 and L24, in part)."""

    def test_no_local_is_called_like_a_class_or_an_import(self):
        for path in code_files():
            body = ast.parse(path.read_text()).body
            taken = {node.name for node in body if isinstance(node, ast.ClassDef)}
            taken |= {alias.name for node in body if isinstance(node, ast.ImportFrom) for alias in node.names}
            for part in body:
                for node in ast.walk(part):
                    if isinstance(node, (ast.arg, ast.Name)):
                        self.assertFalse(taken & set(bound_names(node)), f"{path.name}:{node.lineno}")

    def test_no_name_is_a_method_and_a_value(self):
        methods, values = set(), set()
        for place, node in each_node():
            if isinstance(node, ast.ClassDef):
                names = [part.name for part in node.body if isinstance(part, ast.FunctionDef)]
                self.assertEqual(len(names), len(set(names)), place)
                methods |= set(names)
            if isinstance(node, ast.Attribute) and isinstance(node.ctx, ast.Store):
                values.add(node.attr)
        self.assertEqual(methods & values, set())

    def test_classes_are_called_or_named_only(self):
        classes = {node.name for place, node in each_node() if isinstance(node, ast.ClassDef)}
        for path in code_files():
            tree = ast.parse(path.read_text())
            used, named = [], []
            for node in ast.walk(tree):
                if isinstance(node, ast.Name) and node.id in classes:
                    named.append(node)
                if isinstance(node, ast.Call):
                    used.append(node.func)
                if isinstance(node, ast.Call) and getattr(node.func, "id", "") == "isinstance":
                    used += ast.walk(node.args[1])
                if isinstance(node, ast.ClassDef):
                    used += node.bases
                if isinstance(node, ast.ExceptHandler):
                    used += ast.walk(node.type)
            for node in named:
                self.assertIn(node, used, f"{path.name}:{node.lineno}")

    def test_errors_are_made_on_the_spot_and_taken_by_name(self):
        for place, node in each_node():
            if isinstance(node, ast.Raise):
                self.assertIsInstance(node.exc, ast.Call, place)
            if isinstance(node, ast.ExceptHandler):
                self.assertIsNotNone(node.type, place)
                for part in ast.walk(node.type):
                    self.assertNotIn(getattr(part, "id", ""), ("Exception", "TypeError"), place)

    def test_no_sets(self):
        for place, node in each_node():
            self.assertNotIn(getattr(node, "id", ""), ("set", "frozenset"), place)


if __name__ == "__main__":
    unittest.main()
