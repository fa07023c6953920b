"""Point 48: where the interface stands; and the sizes, characters and imports of the files."""

import ast
import builtins
import inspect
import pathlib
import unittest

import sharedboard.books
import sharedboard.errors
import sharedboard.matrices

PACKAGE = pathlib.Path(__file__).resolve().parent.parent / "sharedboard"
FILES = sorted(PACKAGE.glob("*.py"))

FUNCTIONS = {
    sharedboard.matrices: {
        "composed": ["width", "one", "other"],
        "applied": ["width", "matrix", "vector"],
    },
}
CLASSES = {
    sharedboard.books: {
        "Book": {
            "__init__": ["self", "cells", "bodies"], "cells": ["self"], "bodies": ["self"],
            "calls": ["self"], "__len__": ["self"], "__getitem__": ["self", "at"], "__eq__": ["self", "other"],
        },
    },
    sharedboard.errors: {
        "NoBook": {"__init__": ["self", "procedure", "path"]},
        "NoRun": {"__init__": ["self", "index"]},
        "NoHistory": {"__init__": ["self", "index"]},
        "NoVectors": {"__init__": ["self", "index"]},
        "NoEquations": {"__init__": ["self", "index"]},
        "NoEquation": {"__init__": ["self", "place"]},
        "NoSender": {"__init__": ["self", "state"]},
        "TooMany": {"__init__": ["self", "many"]},
        "NoText": {"__init__": ["self", "line"]},
    },
}
# Names that no variable, function, class, import or parameter may have.
BARRED = set(dir(builtins)) | {
    "register", "mro", "elements", "law", "version_info", "with_traceback", "add_note", "attrgetter",
    "builtins", "gc", "importlib", "methodcaller", "os", "sys",
}


def trees():
    return [(file.name, ast.parse(file.read_text())) for file in FILES]


def bound_names(tree):
    """Yield each name that a file binds."""
    for node in ast.walk(tree):
        if isinstance(node, ast.Name) and isinstance(node.ctx, ast.Store):
            yield node.id
        elif isinstance(node, ast.arg):
            yield node.arg
        elif isinstance(node, ast.ClassDef):
            yield node.name
        elif isinstance(node, ast.ImportFrom):
            yield from [alias.asname or alias.name for alias in node.names]
    for node in tree.body:
        if isinstance(node, ast.FunctionDef):
            yield node.name


class InterfaceTest(unittest.TestCase):
    def test_functions_stand_in_their_files(self):
        for module, functions in FUNCTIONS.items():
            for name, arguments in functions.items():
                found = getattr(module, name)
                self.assertEqual(found.__module__, module.__name__)
                self.assertEqual(list(inspect.signature(found).parameters), arguments)

    def test_classes_stand_in_their_files_and_methods_in_their_classes(self):
        for module, classes in CLASSES.items():
            for name, methods in classes.items():
                found = getattr(module, name)
                self.assertEqual(found.__module__, module.__name__)
                for method, arguments in methods.items():
                    with self.subTest(name, method=method):
                        self.assertIn(method, vars(found))
                        self.assertEqual(list(inspect.signature(vars(found)[method]).parameters), arguments)


class FileTest(unittest.TestCase):
    def test_the_folder_contains_plain_files_only(self):
        found = [path.name for path in PACKAGE.iterdir() if path.name != "__pycache__"]
        self.assertEqual(sorted(found), [file.name for file in FILES])
        self.assertIn("__init__.py", found)

    def test_sizes_and_characters(self):
        for file in FILES:
            text = file.read_text(encoding="utf-8")
            self.assertLess(len(text.split("\n")), 400, file.name)
            for line in text.split("\n"):
                self.assertLessEqual(len(line), 120, (file.name, line))
                self.assertTrue(all(" " <= character <= "~" for character in line), (file.name, line))

    def test_functions_have_at_most_forty_lines(self):
        for name, tree in trees():
            for node in ast.walk(tree):
                if isinstance(node, ast.FunctionDef):
                    self.assertLessEqual(node.end_lineno - node.lineno + 1, 40, (name, node.name))

    def test_module_level_holds_definitions_only(self):
        for name, tree in trees():
            for at, node in enumerate(tree.body):
                docstring = at == 0 and isinstance(node, ast.Expr)
                plain = isinstance(node, (ast.FunctionDef, ast.ClassDef, ast.ImportFrom, ast.Assign))
                self.assertTrue(docstring or plain, (name, node.lineno))

    def test_imports_name_the_file_that_defines_the_name(self):
        defined = {}
        for name, tree in trees():
            defined["sharedboard." + name[:-3]] = {
                node.name if not isinstance(node, ast.Assign) else node.targets[0].id
                for node in tree.body if isinstance(node, (ast.FunctionDef, ast.ClassDef, ast.Assign))
            }
        for name, tree in trees():
            for node in ast.walk(tree):
                self.assertNotIsInstance(node, ast.Import, name)
                if isinstance(node, ast.ImportFrom):
                    for alias in node.names:
                        self.assertIn(alias.name, defined[node.module], name)

    def test_no_name_is_a_barred_one(self):
        for name, tree in trees():
            for bound in bound_names(tree):
                self.assertNotIn(bound, BARRED, name)


if __name__ == "__main__":
    unittest.main()
