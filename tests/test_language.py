"""The rules of LANGUAGE.md that are quick to check: files, characters, sizes, imports and a few signs."""

import ast
import builtins
import os
import unittest

import onemeet

FOLDER = os.path.dirname(os.path.abspath(onemeet.__file__))
NAMES = sorted(name for name in os.listdir(FOLDER) if name != "__pycache__")
SOURCES = ["onemeet", "heapq", "math", "itertools", "collections", "__future__"]
BARRED = (ast.Global, ast.AsyncFunctionDef, ast.AsyncFor, ast.AsyncWith, ast.Import, ast.Div)


def rows_of(name):
    with open(os.path.join(FOLDER, name), encoding="utf-8", newline="") as file:
        return file.read().split("\n")


def nodes_of(name):
    return list(ast.walk(ast.parse("\n".join(rows_of(name)))))


class Language(unittest.TestCase):
    def test_only_python_files(self):
        self.assertIn("__init__.py", NAMES)
        for name in NAMES:
            self.assertTrue(name.endswith(".py") and name.replace("_", "a").removesuffix(".py").isalnum(), name)

    def test_characters_and_sizes(self):
        for name in NAMES:
            rows = rows_of(name)
            self.assertLessEqual(len(rows), 399, name)
            for number, row in enumerate(rows, 1):
                self.assertLessEqual(len(row), 120, (name, number))
                self.assertTrue(all(" " <= sign <= "~" for sign in row), (name, number))

    def test_functions_are_small(self):
        for name in NAMES:
            for node in nodes_of(name):
                if isinstance(node, ast.FunctionDef):
                    self.assertLessEqual(node.end_lineno - node.lineno + 1, 40, (name, node.name))

    def test_imports(self):
        for name in NAMES:
            for node in nodes_of(name):
                if isinstance(node, ast.ImportFrom):
                    self.assertEqual(node.level, 0, name)
                    self.assertIn(node.module.split(".")[0], SOURCES, name)
                    self.assertNotIn("*", [alias.name for alias in node.names], name)

    def test_signs_that_are_not_used(self):
        for name in NAMES:
            for node in nodes_of(name):
                self.assertNotIsInstance(node, BARRED, name)
                if isinstance(node, ast.Constant):
                    self.assertNotIsInstance(node.value, (float, complex), name)
                    self.assertFalse(isinstance(node.value, str) and "%" in node.value, name)

    def test_names_of_builtins_are_not_taken(self):
        for name in NAMES:
            for node in nodes_of(name):
                taken = [node.name] if isinstance(node, (ast.FunctionDef, ast.ClassDef)) else []
                taken += [node.arg] if isinstance(node, ast.arg) else []
                taken += [node.id] if isinstance(node, ast.Name) and isinstance(node.ctx, ast.Store) else []
                # Not __init__, and not _, which a session's last value is kept by.
                self.assertFalse([word for word in taken if word[0] != "_" and hasattr(builtins, word)], name)

    def test_nothing_is_decorated_or_run_at_module_level(self):
        rows = (ast.Expr, ast.ImportFrom, ast.FunctionDef, ast.ClassDef, ast.Assign)
        for name in NAMES:
            for node in nodes_of(name):
                self.assertFalse(getattr(node, "decorator_list", []), name)
                for row in node.body if isinstance(node, ast.Module) else []:
                    self.assertIsInstance(row, rows, name)
                    self.assertFalse(isinstance(row, ast.Expr) and not isinstance(row.value, ast.Constant), name)


if __name__ == "__main__":
    unittest.main()
