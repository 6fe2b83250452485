"""The interface's names and arguments, and the form of the package's own files."""

import ast
import builtins
import importlib
import inspect
import pathlib
import re
import unittest

PACKAGE = pathlib.Path(__file__).resolve().parent.parent / "selvage"

INTERFACE = {
    "tables": {
        "fault": ["table"], "checked_table": ["table"], "kind_of": ["table", "name"], "names": ["table"],
    },
    "rolls": {
        "checked_roll": ["roll"], "spoilt": ["roll", "begin", "end"],
        "changed": ["roll", "place", "weight"], "turned": ["roll"], "joined": ["rolls"],
    },
    "places": {
        "fits": ["roll", "kind", "place"], "all_pieces": ["roll", "table"], "end_of": ["table", "piece"],
    },
    "judge": {"amount": ["roll", "table", "cutting"]},
    "best": {"heights": ["roll", "table"], "best": ["roll", "table"]},
    "prices": {"prices": ["roll", "table"], "shows": ["roll", "table", "number", "prices"]},
    "counts": {
        "cutting_count": ["roll", "table"], "best_count": ["roll", "table"],
        "all_best": ["roll", "table", "most"],
    },
    "standing": {
        "musts": ["roll", "table"], "mays": ["roll", "table"], "loss": ["roll", "table", "piece"],
        "runner_up": ["roll", "table"],
    },
    "parting": {
        "parting_loss": ["roll", "table", "place"], "free_places": ["roll", "table"],
        "parted": ["roll", "places"], "best_parting": ["roll", "table", "parts"],
    },
    "mending": {"mends": ["roll", "kind", "place"], "mended_best": ["roll", "table", "most"]},
    "feed": {"Feed": ["table"]},
    "orders": {
        "checked_order": ["table", "order"], "states": ["order"],
        "plan_left": ["rolls", "table", "order", "plan"],
    },
    "filling": {
        "leavings": ["rolls", "table", "order"], "fill": ["rolls", "table", "order"],
        "richest": ["rolls", "table", "order"],
    },
    "floors": {
        "pointed": ["table", "points"], "floor_by": ["rolls", "table", "order", "points"],
        "floor": ["rolls", "table", "order"],
        "shows_floor": ["rolls", "table", "order", "number", "paper"],
    },
    "ceilings": {
        "ceiling": ["rolls", "table", "order"],
        "shows_ceiling": ["rolls", "table", "order", "number", "paper"],
    },
    "greedy": {"greedy": ["rolls", "table", "order"]},
    "stock": {"Stock": ["table", "least"]},
    "texts": {
        "show_numbers": ["some"], "show_table": ["table"], "show_cutting": ["cutting"],
        "read_numbers": ["line"], "read_table": ["line"], "read_cutting": ["line"],
    },
    "desk": {"Desk": []},
}
METHODS = {
    ("feed", "Feed"): {
        "take": ["weight"], "close": [], "closed": [], "cells": [], "worth": [], "cutting": [], "sure": [],
        "settled": [], "open_starts": [], "between": ["rest"],
    },
    ("stock", "Stock"): {
        "lay": ["roll"], "serve": ["order", "numbers"], "sell": ["number"], "back": [], "again": [], "numbers": [],
        "roll": ["number"], "total": [], "sums": [],
    },
    ("desk", "Desk"): {"say": ["line"]},
}

NODES = set(
    "Module Expr Constant ImportFrom alias FunctionDef arguments arg ClassDef Assign AugAssign "
    "If While For Return Break Continue Pass Raise Try ExceptHandler Call Name Attribute Subscript Slice "
    "List Tuple Dict Set BinOp UnaryOp BoolOp Compare IfExp ListComp comprehension Lambda "
    "JoinedStr FormattedValue Load Store "
    "Add Sub Mult FloorDiv Mod Pow BitAnd BitOr BitXor LShift RShift Invert USub UAdd Not And Or "
    "Eq NotEq Lt LtE Gt GtE Is IsNot In NotIn keyword".split()
)
OWN_NAMES = set(
    "len range enumerate zip min max sum abs sorted reversed int str bool list tuple dict set frozenset "
    "isinstance ord repr any all divmod Exception ValueError TypeError KeyError IndexError LookupError "
    "ZeroDivisionError ArithmeticError OverflowError RuntimeError NotImplementedError AttributeError "
    "StopIteration".split()
)
OWN_METHODS = set(
    "append clear copy count endswith extend find get index insert isalnum isalpha isdigit islower isspace "
    "isupper items join keys ljust lower lstrip partition pop remove replace reverse rfind rjust rpartition "
    "rsplit rstrip setdefault split splitlines startswith strip update upper values zfill bit_length "
    "__init__".split()
)
NO_WORDS = re.compile(
    r"\b(type|typing|typing_extensions|enum|Enum|IntEnum|StrEnum|Flag|IntFlag|Generic|Protocol|ABC|ABCMeta"
    r"|namedtuple|NamedTuple|TypedDict|TYPE_CHECKING|abstractmethod)\b|dataclass|overload|contextmanager"
)
PLAIN_NAME = re.compile(r"[A-Za-z][A-Za-z0-9_]*|__(init|eq|repr|str|len)__")


def package_files():
    return sorted(PACKAGE.glob("*.py"))


def trees():
    return [(path, ast.parse(path.read_text("ascii"))) for path in package_files()]


def walked():
    return [(path, node) for path, tree in trees() for node in ast.walk(tree)]


def bound_at_top(tree):
    found = []
    for node in tree.body:
        if isinstance(node, (ast.FunctionDef, ast.ClassDef)):
            found.append(node.name)
        elif isinstance(node, ast.Assign):
            found.append(node.targets[0].id)
    return found


class TestInterface(unittest.TestCase):
    def test_names_and_arguments(self):
        for file, functions in INTERFACE.items():
            module = importlib.import_module("selvage." + file)
            for name, arguments in functions.items():
                told = inspect.signature(getattr(module, name)).parameters
                self.assertEqual(list(told), arguments, name)

    def test_methods_and_arguments(self):
        for (file, name), methods in METHODS.items():
            made = getattr(importlib.import_module("selvage." + file), name)
            for method, arguments in methods.items():
                told = inspect.signature(getattr(made, method)).parameters
                self.assertEqual(list(told), ["self"] + arguments, method)


class TestForm(unittest.TestCase):
    def test_files(self):
        for path in PACKAGE.iterdir():
            if path.name != "__pycache__":
                self.assertRegex(path.name, r"\A([a-z][a-z0-9_]*|__init__|__main__)\.py\Z")

    def test_signs_and_sizes(self):
        for path in package_files():
            text = path.read_bytes().decode("ascii")
            self.assertRegex(text, r"\A[ -~\n]*\Z", path.name)
            rows = text.splitlines()
            self.assertLessEqual(len(rows), 400, path.name)
            self.assertLessEqual(max(len(row) for row in rows), 120, path.name)
            self.assertIsNone(NO_WORDS.search(text), path.name)
        for path, node in walked():
            if isinstance(node, ast.FunctionDef):
                self.assertLessEqual(node.end_lineno - node.lineno + 1, 40, (path.name, node.name))

    def test_nodes(self):
        for path, node in walked():
            at = (path.name, getattr(node, "lineno", 0))
            self.assertIn(node.__class__.__name__, NODES, at)
            if isinstance(node, ast.Constant):
                self.assertIn(type(node.value), (int, str, bool, type(None)), at)
                self.assertNotIn("%", str(node.value), at)
            if isinstance(node, ast.Assign):
                self.assertEqual(len(node.targets), 1, at)
            if isinstance(node, (ast.For, ast.While)):
                self.assertEqual(node.orelse, [], at)
            if isinstance(node, (ast.FunctionDef, ast.ClassDef)):
                self.assertEqual(node.decorator_list, [], at)

    def test_names(self):
        builtin_names = set(dir(builtins))
        for path, node in walked():
            at = (path.name, getattr(node, "lineno", 0))
            if isinstance(node, ast.Name):
                self.assertIsNotNone(PLAIN_NAME.fullmatch(node.id), at)
                if isinstance(node.ctx, ast.Load):
                    self.assertIn(node.id, OWN_NAMES | ({node.id} - builtin_names), at)
                else:
                    self.assertNotIn(node.id, builtin_names, at)
            if isinstance(node, ast.arg):
                self.assertIsNotNone(PLAIN_NAME.fullmatch(node.arg), at)
                self.assertNotIn(node.arg, builtin_names, at)
            if isinstance(node, (ast.FunctionDef, ast.ClassDef)):
                self.assertIsNotNone(PLAIN_NAME.fullmatch(node.name), at)

    def test_called_methods(self):
        own = {node.name for path, node in walked() if isinstance(node, ast.FunctionDef)}
        for path, node in walked():
            if isinstance(node, ast.Call) and isinstance(node.func, ast.Attribute):
                self.assertIn(node.func.attr, OWN_METHODS | own, (path.name, node.lineno))

    def test_sets_and_identity(self):
        for path, node in walked():
            at = (path.name, getattr(node, "lineno", 0))
            if isinstance(node, ast.Compare) and isinstance(node.ops[0], (ast.Is, ast.IsNot)):
                self.assertIn(ast.unparse(node.comparators[0]), ("None", "True", "False"), at)
            if isinstance(node, (ast.Assign, ast.AugAssign, ast.Return, ast.For)):
                value = node.iter if isinstance(node, ast.For) else node.value
                told = value.func.id if isinstance(value, ast.Call) and isinstance(value.func, ast.Name) else ""
                self.assertNotIn(told, ("set", "frozenset"), at)
                self.assertNotIsInstance(value, ast.Set, at)

    def test_own_names_of_a_file(self):
        for path, tree in trees():
            taken = {
                name.asname or name.name
                for node in tree.body if isinstance(node, ast.ImportFrom) for name in node.names
            }
            taken |= {node.name for node in tree.body if isinstance(node, ast.ClassDef)}
            for node in ast.walk(tree):
                if isinstance(node, ast.arg):
                    self.assertNotIn(node.arg, taken, (path.name, node.lineno))
                if isinstance(node, ast.Name) and isinstance(node.ctx, ast.Store):
                    self.assertNotIn(node.id, taken, (path.name, node.lineno))

    def test_methods_are_no_values(self):
        methods, values = set(), set()
        for path, node in walked():
            if isinstance(node, ast.ClassDef):
                methods |= {part.name for part in node.body if isinstance(part, ast.FunctionDef)}
            if isinstance(node, ast.Attribute) and isinstance(node.ctx, ast.Store):
                values.add(node.attr)
        self.assertEqual(methods & values, set())

    def test_no_two_files_draw_from_one_another(self):
        drawn = {
            "selvage." + path.stem: {node.module for node in tree.body if isinstance(node, ast.ImportFrom)}
            for path, tree in trees()
        }
        while drawn:
            bare = [file for file in drawn if not drawn[file] & set(drawn)]
            self.assertNotEqual(bare, [], sorted(drawn))
            for file in bare:
                del drawn[file]

    def test_top_and_imports(self):
        defined = {"selvage." + path.stem: bound_at_top(tree) for path, tree in trees()}
        for path, tree in trees():
            body = tree.body[1:] if ast.get_docstring(tree) is not None else tree.body
            for node in body:
                self.assertIsInstance(node, (ast.ImportFrom, ast.FunctionDef, ast.ClassDef, ast.Assign))
            top = bound_at_top(tree)
            self.assertEqual(len(top), len(set(top)), path.name)
        for path, node in walked():
            if isinstance(node, ast.ImportFrom):
                self.assertEqual(node.level, 0, path.name)
                for drawn in node.names:
                    self.assertIn(drawn.name, defined.get(node.module, []), path.name)


if __name__ == "__main__":
    unittest.main()
