"""The rules of LANGUAGE.md that are quick to check: files, characters, sizes, imports and a few signs."""

import ast
import os
import unittest

import onemeet

FOLDER = os.path.dirname(os.path.abspath(onemeet.__file__))
NAMES = sorted(name for name in os.listdir(FOLDER) if name != "__pycache__")
SOURCES = ["onemeet", "heapq", "math", "itertools", "collections", "__future__"]
BARRED = (ast.Global, ast.AsyncFunctionDef, ast.AsyncFor, ast.AsyncWith, ast.Import, ast.Div)


def rows_of(name):
    with open(os.path.join(FOLDER, name), encoding="utf-8", newline="") as file:
        return file.read().split("\n")


def nodes_of(name):
    return list(ast.walk(ast.parse("\n".join(rows_of(name)))))


class Language(unittest.TestCase):
    def test_only_python_files(self):
        self.assertIn("__init__.py", NAMES)
        for name in NAMES:
            self.assertTrue(name.endswith(".py") and name.replace("_", "a").removesuffix(".py").isalnum(), name)

    def test_characters_and_sizes(self):
        for name in NAMES:
            rows = rows_of(name)
            self.assertLessEqual(len(rows), 399, name)
            for number, row in enumerate(rows, 1):
                self.assertLessEqual(len(row), 120, (name, number))
                self.assertTrue(all(" " <= sign <= "~" for sign in row), (name, number))

    def test_functions_are_small(self):
        for name in NAMES:
            for node in nodes_of(name):
                if isinstance(node, ast.FunctionDef):
                    self.assertLessEqual(node.end_lineno - node.lineno + 1, 40, (name, node.name))

    def test_imports(self):
        for name in NAMES:
            for node in nodes_of(name):
                if isinstance(node, ast.ImportFrom):
                    self.assertEqual(node.level, 0, name)
                    self.assertIn(node.module.split(".")[0], SOURCES, name)
                    self.assertNotIn("*", [alias.name for alias in node.names], name)

    def test_signs_that_are_not_used(self):
        for name in NAMES:
            for node in nodes_of(name):
                self.assertNotIsInstance(node, BARRED, name)
                if isinstance(node, ast.Constant):
                    self.assertNotIsInstance(node.value, (float, complex), name)


if __name__ == "__main__":
    unittest.main()
