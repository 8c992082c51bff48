"""The names, files, arguments and classes of the interface."""

import ast
import inspect
import unittest

from onemeet import errors, planes

CLASSES = ["BadPrime", "BadPoint", "BadLine", "BadForm", "BadNumber", "Alike", "NotOn"]


def defined(module):
    """The names of the functions and classes that the module's own file defines."""
    rows = ast.parse(inspect.getsource(module)).body
    return [row.name for row in rows if isinstance(row, (ast.FunctionDef, ast.ClassDef))]


class Interface(unittest.TestCase):
    def test_errors(self):
        self.assertEqual(errors.MeetError.__bases__, (ValueError,))
        for name in CLASSES:
            with self.subTest(name):
                self.assertEqual(getattr(errors, name).__bases__, (errors.MeetError,))
        self.assertEqual(sorted(defined(errors)), sorted(CLASSES + ["MeetError"]))

    def test_functions(self):
        arguments = {"on": ["prime", "point", "line"], "join": ["prime", "one", "other"],
                     "meet": ["prime", "one", "other"]}
        for name, names in arguments.items():
            with self.subTest(name):
                self.assertEqual(list(inspect.signature(getattr(planes, name)).parameters), names)
                self.assertIn(name, defined(planes))

    def test_by_names(self):
        self.assertIs(planes.on(prime=5, point=(1, 2, 3), line=(1, 2, 0)), True)
        self.assertEqual(planes.join(prime=5, one=(1, 0, 0), other=(0, 1, 0)), (0, 0, 1))
        self.assertEqual(planes.meet(prime=5, one=(1, 0, 0), other=(0, 1, 0)), (0, 0, 1))


if __name__ == "__main__":
    unittest.main()
