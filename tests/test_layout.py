"""Point 48: where the interface stands; and the sizes, characters and imports of the files."""

import ast
import builtins
import inspect
import pathlib
import unittest

import sharedboard.bases
import sharedboard.books
import sharedboard.deeds
import sharedboard.equations
import sharedboard.errors
import sharedboard.faultjudges
import sharedboard.faults
import sharedboard.late
import sharedboard.latejudges
import sharedboard.logs
import sharedboard.matrices
import sharedboard.orders
import sharedboard.reach
import sharedboard.runs
import sharedboard.senders
import sharedboard.sessions
import sharedboard.spaces
import sharedboard.tables
import sharedboard.texts

PACKAGE = pathlib.Path(__file__).resolve().parent.parent / "sharedboard"
FILES = sorted(PACKAGE.glob("*.py"))

FUNCTIONS = {
    sharedboard.matrices: {
        "composed": ["width", "one", "other"],
        "applied": ["width", "matrix", "vector"],
    },
    sharedboard.runs: {
        "played": ["book", "procedure", "bits", "*board", "*n"],
        "run_matrix": ["book", "procedure", "bits"],
    },
    sharedboard.deeds: {
        "deed_class": ["book", "deed"],
        "deed_matrix": ["book", "deed"],
        "done": ["book", "history", "*board"],
        "boards": ["book", "history", "*board"],
    },
    sharedboard.spaces: {
        "product": ["width", "one", "other"],
        "image": ["width", "matrices", "vectors"],
        "vanishing": ["space"],
    },
    sharedboard.tables: {
        "table": ["book"],
        "body_space": ["book", "table", "cls"],
        "table_fault": ["book", "thing"],
    },
    sharedboard.bases: {
        "basis_runs": ["book", "cls"],
        "board_space": ["book", "cls"],
    },
    sharedboard.equations: {
        "decide": ["book", "equation"],
        "equation_fault": ["book", "equation", "thing"],
        "holds_fault": ["book", "equations", "thing"],
        "strikes": ["book"],
    },
    sharedboard.senders: {
        "free": ["book"],
    },
    sharedboard.reach: {
        "reach": ["book", "sender"],
        "settle": ["book", "sender", "claims"],
        "sure_fault": ["book", "sender", "claims", "thing"],
        "history_fault": ["book", "sender", "claims", "thing"],
        "decide_there": ["book", "sender", "state", "equation"],
    },
    sharedboard.orders: {
        "conflicts": ["book"],
        "conflict_shown": ["book", "first", "second"],
        "weaves": ["book", "order", "one", "other"],
        "normal": ["book", "order", "history"],
        "alike_weavings": ["book", "order"],
    },
    sharedboard.faults: {
        "fault_entries": ["book", "sender", "fault"],
        "fault_after": ["book", "sender", "fault", "many"],
        "healed": ["book", "sender", "fault"],
        "fault_run": ["book", "sender", "fault", "many"],
        "healing": ["book", "sender", "fault"],
    },
    sharedboard.faultjudges: {
        "healed_fault": ["book", "sender", "fault", "thing"],
        "fault_run_fault": ["book", "sender", "fault", "many", "thing"],
    },
    sharedboard.late: {
        "entries": ["book", "sender"],
        "after": ["book", "sender", "many"],
        "level": ["book", "sender", "cells"],
        "when_sure": ["book", "sender", "claims"],
        "late_run": ["book", "sender", "claims", "many"],
        "last_claims": ["book", "sender"],
    },
    sharedboard.latejudges: {
        "from_fault": ["book", "sender", "claims", "k", "thing"],
        "late_fault": ["book", "sender", "claims", "many", "thing"],
    },
    sharedboard.logs: {
        "same_end": ["book", "one", "other"],
        "pressed": ["book", "history"],
        "struck": ["book", "history"],
        "undone": ["book", "history", "index", "deeds"],
    },
    sharedboard.texts: {
        "book_text": ["book"],
        "read_book": ["text"],
    },
}
DEFAULTS = {
    "played": {"board": None, "n": 0}, "done": {"board": None}, "boards": {"board": None},
    "Session": {"replicas": 2, "order": None}, "deliver": {"at": 0},
}
CLASSES = {
    sharedboard.books: {
        "Book": {
            "__init__": ["self", "cells", "bodies"], "cells": ["self"], "bodies": ["self"],
            "calls": ["self"], "__len__": ["self"], "__getitem__": ["self", "at"], "__eq__": ["self", "other"],
        },
    },
    sharedboard.spaces: {
        "Space": {
            "__init__": ["self", "width", "vectors"], "width": ["self"], "basis": ["self"], "within": ["self", "other"],
            "__len__": ["self"], "__contains__": ["self", "vector"], "__add__": ["self", "other"],
            "__eq__": ["self", "other"],
        },
    },
    sharedboard.senders: {
        "Sender": {
            "__init__": ["self", "book", "ways"], "states": ["self"], "ways": ["self", "state"],
            "behind": ["self", "state", "classes"], "__eq__": ["self", "other"],
        },
    },
    sharedboard.sessions: {
        "Session": {
            "__init__": ["self", "book", "sender", "*replicas", "*order"], "send": ["self", "deed"],
            "__iadd__": ["self", "other"], "deliver": ["self", "replica", "*at"], "lose": ["self", "replica"],
            "exchange": ["self", "replica"], "join": ["self", "board"], "__getitem__": ["self", "at"],
            "mail": ["self", "replica"], "log": ["self"], "__len__": ["self"], "level": ["self"], "settle": ["self"],
            "tried": ["self", "action"], "__eq__": ["self", "other"],
        },
    },
    sharedboard.errors: {
        "NoBook": {"__init__": ["self", "procedure", "path"]},
        "NoRun": {"__init__": ["self", "index"]},
        "NoHistory": {"__init__": ["self", "index"]},
        "NoVectors": {"__init__": ["self", "index"]},
        "NoEquations": {"__init__": ["self", "index"]},
        "NoEquation": {"__init__": ["self", "place"]},
        "NoSender": {"__init__": ["self", "state"]},
        "TooMany": {"__init__": ["self", "many"]},
        "NoText": {"__init__": ["self", "line"]},
    },
}
# What may be imported from outside of the package.
LIBRARY = {"math": ("gcd", "lcm", "isqrt"), "heapq": ("heappush", "heappop")}
# Names that no variable, function, class, import or parameter may have.
BARRED = set(dir(builtins)) | {
    "register", "mro", "elements", "law", "version_info", "with_traceback", "add_note", "attrgetter",
    "builtins", "gc", "importlib", "methodcaller", "os", "sys",
}


def arguments_of(function):
    """Return the names of the arguments of a function, a star ahead of those that are handed in by their names."""
    found = inspect.signature(function).parameters.values()
    return [("*" if one.kind == one.KEYWORD_ONLY else "") + one.name for one in found]


def defaults_of(function):
    """Return the default values of a function."""
    found = inspect.signature(function).parameters.values()
    return {one.name: one.default for one in found if one.default is not one.empty}


def trees():
    return [(file.name, ast.parse(file.read_text())) for file in FILES]


def bound_names(tree):
    """Yield each name that a file binds."""
    for node in ast.walk(tree):
        if isinstance(node, ast.Name) and isinstance(node.ctx, ast.Store):
            yield node.id
        elif isinstance(node, ast.arg):
            yield node.arg
        elif isinstance(node, ast.ClassDef):
            yield node.name
        elif isinstance(node, ast.ImportFrom):
            yield from [alias.asname or alias.name for alias in node.names]
    for node in tree.body:
        if isinstance(node, ast.FunctionDef):
            yield node.name


class InterfaceTest(unittest.TestCase):
    def test_functions_stand_in_their_files(self):
        for module, functions in FUNCTIONS.items():
            for name, arguments in functions.items():
                found = getattr(module, name)
                self.assertEqual(found.__module__, module.__name__)
                self.assertEqual(arguments_of(found), arguments)
                self.assertEqual(defaults_of(found), DEFAULTS.get(name, {}))

    def test_classes_stand_in_their_files_and_methods_in_their_classes(self):
        for module, classes in CLASSES.items():
            for name, methods in classes.items():
                found = getattr(module, name)
                self.assertEqual(found.__module__, module.__name__)
                for method, arguments in methods.items():
                    with self.subTest(name, method=method):
                        self.assertIn(method, vars(found))
                        self.assertEqual(arguments_of(vars(found)[method]), arguments)
                        key = name if method == "__init__" else method
                        self.assertEqual(defaults_of(vars(found)[method]), DEFAULTS.get(key, {}))


class FileTest(unittest.TestCase):
    def test_the_folder_contains_plain_files_only(self):
        found = [path.name for path in PACKAGE.iterdir() if path.name != "__pycache__"]
        self.assertEqual(sorted(found), [file.name for file in FILES])
        self.assertIn("__init__.py", found)

    def test_sizes_and_characters(self):
        for file in FILES:
            text = file.read_text(encoding="utf-8")
            self.assertLess(len(text.split("\n")), 400, file.name)
            for line in text.split("\n"):
                self.assertLessEqual(len(line), 120, (file.name, line))
                self.assertTrue(all(" " <= character <= "~" for character in line), (file.name, line))

    def test_functions_have_at_most_forty_lines(self):
        for name, tree in trees():
            for node in ast.walk(tree):
                if isinstance(node, ast.FunctionDef):
                    self.assertLessEqual(node.end_lineno - node.lineno + 1, 40, (name, node.name))

    def test_module_level_holds_definitions_only(self):
        for name, tree in trees():
            for at, node in enumerate(tree.body):
                docstring = at == 0 and isinstance(node, ast.Expr)
                plain = isinstance(node, (ast.FunctionDef, ast.ClassDef, ast.ImportFrom, ast.Assign))
                self.assertTrue(docstring or plain, (name, node.lineno))

    def test_imports_name_the_file_that_defines_the_name(self):
        defined = {}
        for name, tree in trees():
            defined["sharedboard." + name[:-3]] = {
                node.name if not isinstance(node, ast.Assign) else node.targets[0].id
                for node in tree.body if isinstance(node, (ast.FunctionDef, ast.ClassDef, ast.Assign))
            }
        defined.update({module: set(names) for module, names in LIBRARY.items()})
        for name, tree in trees():
            for node in ast.walk(tree):
                self.assertNotIsInstance(node, ast.Import, name)
                if isinstance(node, ast.ImportFrom):
                    for alias in node.names:
                        self.assertIn(alias.name, defined[node.module], name)
                        self.assertIsNone(alias.asname)

    def test_no_two_files_import_from_each_other(self):
        above = {
            "sharedboard." + name[:-3]: {node.module for node in tree.body if isinstance(node, ast.ImportFrom)}
            for name, tree in trees()
        }
        done = set(LIBRARY)
        while len(done) < len(above) + len(LIBRARY):
            ready = {name for name, modules in above.items() if modules <= done} - done
            self.assertTrue(ready, "a circle of imports")
            done |= ready

    def test_no_argument_or_variable_has_the_name_of_a_class_or_an_import_of_its_file(self):
        for name, tree in trees():
            taken = {node.name for node in tree.body if isinstance(node, ast.ClassDef)}
            for node in tree.body:
                if isinstance(node, ast.ImportFrom):
                    taken |= {alias.name for alias in node.names}
            for node in ast.walk(tree):
                if isinstance(node, ast.arg):
                    self.assertNotIn(node.arg, taken, (name, node.lineno))
                if isinstance(node, ast.Name) and isinstance(node.ctx, ast.Store):
                    self.assertNotIn(node.id, taken, (name, node.lineno))

    def test_no_name_is_a_barred_one(self):
        for name, tree in trees():
            for bound in bound_names(tree):
                self.assertNotIn(bound, BARRED, name)


if __name__ == "__main__":
    unittest.main()
