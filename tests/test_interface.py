"""The names, files, arguments and classes of the interface."""

import ast
import inspect
import unittest

from onemeet import answers, errors, numbering, ovals, planes

CLASSES = ["BadPrime", "BadPoint", "BadLine", "BadForm", "BadNumber", "Alike", "NotOn"]
FUNCTIONS = {
    planes: {"on": ["prime", "point", "line"], "join": ["prime", "one", "other"], "meet": ["prime", "one", "other"]},
    numbering: {"point_by": ["prime", "number"], "number_of": ["prime", "point"],
                "point_on": ["prime", "line", "number"], "number_on": ["prime", "line", "point"]},
    ovals: {"oval": ["prime", "five"], "shared": ["prime", "form", "line"]},
}
# For each answer its fields and what `shows` is asked of.
ANSWERS = {"Oval": (["form"], ["prime", "five"]), "InLine": (["three"], ["prime", "five"]),
           "Shared": (["points"], ["prime", "form", "line"]), "Apart": (["rest"], ["prime", "form", "line"])}


def defined(module):
    """The names of the functions and classes that the module's own file defines."""
    rows = ast.parse(inspect.getsource(module)).body
    return [row.name for row in rows if isinstance(row, (ast.FunctionDef, ast.ClassDef))]


class Interface(unittest.TestCase):
    def test_errors(self):
        self.assertEqual(errors.MeetError.__bases__, (ValueError,))
        for name in CLASSES:
            with self.subTest(name):
                self.assertEqual(getattr(errors, name).__bases__, (errors.MeetError,))
        self.assertEqual(sorted(defined(errors)), sorted(CLASSES + ["MeetError"]))

    def test_functions(self):
        for module, functions in FUNCTIONS.items():
            for name, names in functions.items():
                with self.subTest(name):
                    self.assertEqual(list(inspect.signature(getattr(module, name)).parameters), names)
                    self.assertIn(name, defined(module))

    def test_answers(self):
        self.assertEqual(answers.Answer.__bases__, (object,))
        self.assertEqual(sorted(defined(answers)), sorted(["Answer", *ANSWERS]))
        for name, (fields, asked) in ANSWERS.items():
            with self.subTest(name):
                own = getattr(answers, name)
                self.assertEqual(own.__bases__, (answers.Answer,))
                self.assertEqual(list(inspect.signature(own).parameters), fields)
                self.assertEqual(list(inspect.signature(vars(own)["shows"]).parameters), ["self"] + asked)

    def test_by_names(self):
        self.assertIs(planes.on(prime=5, point=(1, 2, 3), line=(1, 2, 0)), True)
        self.assertEqual(planes.join(prime=5, one=(1, 0, 0), other=(0, 1, 0)), (0, 0, 1))
        self.assertEqual(planes.meet(prime=5, one=(1, 0, 0), other=(0, 1, 0)), (0, 0, 1))
        self.assertEqual(numbering.point_by(prime=5, number=6), (1, 0, 0))
        self.assertEqual(numbering.number_of(prime=5, point=(1, 0, 0)), 6)
        self.assertEqual(numbering.point_on(prime=5, line=(0, 0, 1), number=0), (0, 1, 0))
        self.assertEqual(numbering.number_on(prime=5, line=(0, 0, 1), point=(0, 1, 0)), 0)
        five = [(1, 0, 0), (0, 1, 0), (1, 1, 0), (0, 0, 1), (1, 1, 1)]
        self.assertEqual(ovals.oval(prime=5, five=five).three, [0, 1, 2])
        self.assertEqual(ovals.shared(prime=5, form=(1, 0, 0, 0, 0, 0), line=(0, 1, 0)).points, [(0, 0, 1)])


if __name__ == "__main__":
    unittest.main()
