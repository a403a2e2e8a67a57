"""Holds the package to the rules of the language that can be seen in the source without much ado."""

import ast
import builtins
import pathlib
import re
import unittest

FOLDER = pathlib.Path(__file__).resolve().parent.parent / "twoalone"
FILES = sorted(path for path in FOLDER.iterdir() if path.name != "__pycache__")

BUILTINS = set(
    "len range enumerate zip min max sum abs sorted reversed int str bool bytes list tuple dict set frozenset"
    " isinstance ord repr any all divmod iter next Exception ValueError TypeError KeyError IndexError LookupError"
    " ZeroDivisionError ArithmeticError OverflowError RuntimeError NotImplementedError AttributeError StopIteration"
    " NotImplemented".split()
)
METHODS = set(
    "append clear copy count endswith extend find get index insert isalnum isalpha isdigit islower isspace isupper"
    " items join keys ljust lower lstrip partition pop remove replace reverse rfind rjust rpartition rsplit rstrip"
    " setdefault split splitlines startswith strip update upper values zfill bit_length add discard __init__".split()
)
BARRED = re.compile(
    r"\b(type|typing|typing_extensions|enum|Enum|IntEnum|StrEnum|Flag|IntFlag|Generic|Protocol|ABC|ABCMeta|namedtuple"
    r"|NamedTuple|TypedDict|TYPE_CHECKING|abstractmethod)\b|dataclass|overload|contextmanager"
)
UNUSED = {"register", "mro", "elements", "open", "input", "law", "version_info", "with_traceback", "add_note"}
KEPT_METHODS = {"__init__", "__eq__", "__repr__", "__str__", "__len__", "__enter__", "__exit__", "__call__", "__iter__"}
NO_NODES = (
    ast.Global, ast.AsyncFunctionDef, ast.Await, ast.AsyncFor, ast.AsyncWith, ast.Div, ast.MatMult, ast.Import,
)
DEFINITIONS = (ast.FunctionDef, ast.ClassDef)
MODULE_LEVEL = (ast.Expr, ast.ImportFrom, ast.FunctionDef, ast.ClassDef, ast.Assign)
TAKES_A_LIST = {"any", "all", "min", "max", "sum", "sorted"}


def nodes_of(path):
    return ast.walk(ast.parse(path.read_text()))


def bound_in(path):
    """Every name that the file gives a meaning, with its line."""
    for node in nodes_of(path):
        if isinstance(node, DEFINITIONS):
            yield node.name, node.lineno
        elif isinstance(node, ast.arg):
            yield node.arg, node.lineno
        elif isinstance(node, ast.Name) and isinstance(node.ctx, ast.Store):
            yield node.id, node.lineno
        elif isinstance(node, ast.alias):
            yield node.asname or node.name, node.lineno


def at(path, line):
    return f"{path.name}:{line}"


def own_names():
    return {name for path in FILES for name, line in bound_in(path)}


class Language(unittest.TestCase):
    def test_files(self):
        self.assertIn("__init__.py", [path.name for path in FILES])
        for path in FILES:
            self.assertRegex(path.name, r"^([a-z][a-z0-9_]*|__init__|__main__)\.py$")

    def test_sizes_and_signs(self):
        for path in FILES:
            lines = path.read_text().split("\n")
            self.assertLess(len(lines), 400)
            for number, line in enumerate(lines, 1):
                self.assertRegex(line, r"^[ -~]{0,120}$", at(path, number))
                self.assertIsNone(BARRED.search(line), at(path, number))

    def test_sizes_of_functions(self):
        for path in FILES:
            for node in nodes_of(path):
                if isinstance(node, ast.FunctionDef):
                    self.assertLessEqual(node.end_lineno - node.lineno + 1, 40, node.name)

    def test_module_level(self):
        for path in FILES:
            for node in ast.parse(path.read_text()).body:
                self.assertIsInstance(node, MODULE_LEVEL, at(path, node.lineno))
                if isinstance(node, ast.Expr):
                    self.assertIsInstance(node.value, ast.Constant, at(path, node.lineno))

    def test_imports_name_the_file_that_defines(self):
        for path in FILES:
            for node in nodes_of(path):
                if isinstance(node, ast.ImportFrom):
                    self.assertRegex(node.module, r"^twoalone\.[a-z_]+$", at(path, node.lineno))
                    there = ast.parse((FOLDER / f"{node.module.split('.')[1]}.py").read_text()).body
                    defined = [each.name for each in there if isinstance(each, DEFINITIONS)]
                    defined += [each.targets[0].id for each in there if isinstance(each, ast.Assign)]
                    for alias in node.names:
                        self.assertIn(alias.name, defined)

    def test_no_two_files_import_from_each_other(self):
        needs = {}
        for path in FILES:
            froms = [node.module for node in nodes_of(path) if isinstance(node, ast.ImportFrom)]
            needs[path.stem] = {module.split(".")[1] for module in froms}
        while needs:
            free = [name for name, modules in needs.items() if not modules & set(needs)]
            self.assertNotEqual(free, [], needs)
            for name in free:
                del needs[name]

    def test_what_is_imported_is_used_and_keeps_its_name(self):
        for path in FILES:
            nodes = list(nodes_of(path))
            used = {node.id for node in nodes if isinstance(node, ast.Name) and isinstance(node.ctx, ast.Load)}
            imported = {alias.name for node in nodes if isinstance(node, ast.ImportFrom) for alias in node.names}
            self.assertEqual(imported - used, set(), path.name)
            others = [node.arg for node in nodes if isinstance(node, ast.arg)]
            others += [node.id for node in nodes if isinstance(node, ast.Name) and isinstance(node.ctx, ast.Store)]
            self.assertEqual(imported & set(others), set(), path.name)

    def test_names(self):
        for path in FILES:
            for name, line in bound_in(path):
                if name not in KEPT_METHODS:
                    self.assertRegex(name, r"^[A-Za-z][A-Za-z0-9_]*$", at(path, line))
                self.assertNotIn(name, vars(builtins), at(path, line))
                self.assertNotIn(name, UNUSED, at(path, line))

    def test_builtins_and_methods(self):
        own = own_names()
        for path in FILES:
            for node in nodes_of(path):
                if isinstance(node, ast.Name) and node.id not in own:
                    self.assertIn(node.id, BUILTINS, at(path, node.lineno))
                if isinstance(node, ast.Call) and isinstance(node.func, ast.Attribute):
                    self.assertIn(node.func.attr, METHODS | own, at(path, node.lineno))

    def test_statements_and_signs_that_are_not_allowed(self):
        for path in FILES:
            for node in nodes_of(path):
                line = getattr(node, "lineno", 0)
                self.assertNotIsInstance(node, NO_NODES, at(path, line))
                if isinstance(node, DEFINITIONS):
                    self.assertEqual(node.decorator_list, [], at(path, line))
                if isinstance(node, ast.Constant):
                    self.assertNotIsInstance(node.value, (float, complex), at(path, line))
                    self.assertNotIn("%", node.value if isinstance(node.value, str) else "", at(path, line))

    def test_is_with_none_true_and_false_alone(self):
        for path in FILES:
            for node in nodes_of(path):
                if isinstance(node, ast.Compare) and isinstance(node.ops[0], (ast.Is, ast.IsNot)):
                    right = getattr(node.comparators[0], "value", 0)
                    self.assertTrue(right is None or isinstance(right, bool), at(path, node.lineno))

    def test_lists_instead_of_generator_expressions(self):
        for path in FILES:
            for node in nodes_of(path):
                if isinstance(node, ast.Call) and getattr(node.func, "id", "") in TAKES_A_LIST:
                    for handed in node.args:
                        self.assertNotIsInstance(handed, ast.GeneratorExp, at(path, node.lineno))
