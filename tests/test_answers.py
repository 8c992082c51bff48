"""Promises 1, 4 and 5: the answers' classes and fields, and that nothing handed in is changed or kept."""

import copy
import unittest

from onemeet.answers import Answer, Apart, InLine, Oval, Shared
from onemeet.ovals import oval, shared
from samples import SOME_PRIMES, five_by, points_along

CORNERS = [(1, 0, 0), (0, 1, 0), (0, 0, 1)]
ROUND = CORNERS + [(1, 1, 1), (1, 2, 3)]
FLAT = CORNERS + [(1, 1, 0), (1, 1, 1)]
ROUND_FORM = (0, 0, 0, 1, 1, 5)
# By 7, x x + y y has no point with z = 0 and one with y = 0; x y has all of x = 0.
APART = ((1, 1, 0, 0, 0, 0), (0, 0, 1))
ONE = ((1, 1, 0, 0, 0, 0), (0, 1, 0))
ALL = ((0, 0, 0, 1, 0, 0), (1, 0, 0))


class Classes(unittest.TestCase):
    def test_told_classes_and_fields(self):
        told = {Oval: (oval(7, ROUND), {"form": ROUND_FORM}), InLine: (oval(7, FLAT), {"three": [0, 1, 3]}),
                Shared: (shared(7, *ONE), {"points": [(0, 0, 1)]}), Apart: (shared(7, *APART), {"rest": 3})}
        for own, (answer, fields) in told.items():
            with self.subTest(own.__name__):
                self.assertIs(type(answer), own)
                self.assertIsInstance(answer, Answer)
                self.assertEqual(vars(answer), fields)

    def test_made_by_hand(self):
        made = [(Oval(ROUND_FORM), "form", ROUND_FORM), (InLine([0, 1, 3]), "three", [0, 1, 3]),
                (Shared([(0, 0, 1)]), "points", [(0, 0, 1)]), (Apart(3), "rest", 3), (InLine([]), "three", []),
                (Shared([]), "points", []), (Apart(-5), "rest", -5), (InLine([9, -4]), "three", [9, -4]),
                (Oval((1, 996, 0, 0, 0, 0)), "form", (1, 996, 0, 0, 0, 0))]
        for answer, name, field in made:
            with self.subTest(name=name, field=field):
                self.assertEqual(vars(answer), {name: field})

    def test_made_by_name(self):
        self.assertIs(Oval(form=ROUND_FORM).shows(prime=7, five=ROUND), True)
        self.assertIs(InLine(three=[0, 1, 3]).shows(prime=7, five=FLAT), True)
        self.assertIs(Shared(points=[(0, 0, 1)]).shows(prime=7, form=ONE[0], line=ONE[1]), True)
        self.assertIs(Apart(rest=3).shows(prime=7, form=APART[0], line=APART[1]), True)

    def test_truths_are_no_numbers(self):
        self.assertIs(InLine([False, True, 3]).shows(7, FLAT), False)
        self.assertIs(Oval((0, 0, 0, True, True, 5)).shows(7, ROUND), False)
        self.assertIs(Oval((False, 0, 0, 1, 1, 5)).shows(7, ROUND), False)
        self.assertIs(Shared([(0, 0, True)]).shows(7, *ONE), False)
        self.assertIs(Shared([(0, False, 1)]).shows(7, *ONE), False)
        # A rest that Python takes True or False for is 1 or 0, so a number's square leaves it.
        for line in points_along(7, (1, 0, 0)) + points_along(7, (0, 1, 3)):
            for rest in (True, False):
                self.assertIs(Apart(rest).shows(7, APART[0], line), False)


class ByTheFields(unittest.TestCase):
    def test_form_changed(self):
        answer = oval(7, ROUND)
        answer.form = (0, 0, 0, 1, 1, 4)
        self.assertIs(answer.shows(7, ROUND), False)
        answer.form = ROUND_FORM
        self.assertIs(answer.shows(7, ROUND), True)

    def test_three_changed(self):
        answer = oval(7, FLAT)
        answer.three[2] = 2
        self.assertIs(answer.shows(7, FLAT), False)
        answer.three[2] = 3
        self.assertIs(answer.shows(7, FLAT), True)
        answer.three.append(4)
        self.assertIs(answer.shows(7, FLAT), False)
        answer.three = [0, 1, 3]
        self.assertIs(answer.shows(7, FLAT), True)
        answer.three.reverse()
        self.assertIs(answer.shows(7, FLAT), False)
        answer.three.clear()
        self.assertIs(answer.shows(7, FLAT), False)

    def test_points_changed(self):
        answer = shared(7, *ALL)
        last = answer.points.pop()
        self.assertIs(answer.shows(7, *ALL), False)
        answer.points.append(last)
        self.assertIs(answer.shows(7, *ALL), True)
        answer.points[0] = (1, 0, 0)
        self.assertIs(answer.shows(7, *ALL), False)
        answer.points = points_along(7, ALL[1])
        self.assertIs(answer.shows(7, *ALL), True)
        answer.points = []
        self.assertIs(answer.shows(7, *ALL), False)
        self.assertIs(answer.shows(7, *APART), False)
        answer.points = [(0, 0, 1)]
        self.assertIs(answer.shows(7, *ONE), True)

    def test_rest_changed(self):
        answer = shared(7, *APART)
        for rest in (-4, 10, 0, 5):
            answer.rest = rest
            self.assertIs(answer.shows(7, *APART), False)
        answer.rest = 3
        self.assertIs(answer.shows(7, *APART), True)


class Copied(unittest.TestCase):
    def test_lists_changed_behind(self):
        three, points = [0, 1, 3], [(0, 0, 1)]
        in_line, both = InLine(three), Shared(points)
        three.append(4)
        three[0] = 2
        points.clear()
        self.assertEqual((in_line.three, both.points), ([0, 1, 3], [(0, 0, 1)]))
        self.assertIs(in_line.shows(7, FLAT), True)
        self.assertIs(both.shows(7, *ONE), True)

    def test_lists_handed_in_stay(self):
        three, points = [0, 1, 3], [(0, 0, 1)]
        in_line, both = InLine(three), Shared(points)
        in_line.three.append(4)
        both.points.pop()
        self.assertEqual((three, points), ([0, 1, 3], [(0, 0, 1)]))

    def test_two_of_one_list(self):
        three, points = [0, 1, 3], [(0, 0, 1)]
        self.assertIsNot(InLine(three).three, InLine(three).three)
        self.assertIsNot(Shared(points).points, Shared(points).points)

    def test_five_stays(self):
        for five in (ROUND, FLAT):
            handed = list(five)
            answer = oval(7, handed)
            self.assertEqual(handed, five)
            fields = copy.deepcopy(vars(answer))
            self.assertIs(answer.shows(7, handed), True)
            self.assertEqual(handed, five)
            handed.reverse()
            handed[0] = (1, 6, 6)
            self.assertEqual(vars(answer), fields)
            self.assertIs(answer.shows(7, five), True)
            handed.clear()
            self.assertEqual(vars(answer), fields)

    def test_shows_changes_nothing(self):
        told = [(oval(7, ROUND), [list(ROUND)]), (oval(7, FLAT), [list(FLAT)]), (shared(7, *ALL), ALL),
                (shared(7, *ONE), ONE), (shared(7, *APART), APART)]
        for answer, asked in told:
            fields, before = copy.deepcopy(vars(answer)), copy.deepcopy(asked)
            for _ in range(2):
                self.assertIs(answer.shows(7, *asked), True)
                self.assertEqual(vars(answer), fields)
                self.assertEqual(asked, before)


class New(unittest.TestCase):
    def test_no_list_in_common(self):
        one, other = oval(7, FLAT), oval(7, FLAT)
        self.assertIsNot(one, other)
        self.assertIsNot(one.three, other.three)
        one.three.clear()
        self.assertEqual(other.three, [0, 1, 3])
        self.assertEqual(oval(7, FLAT).three, [0, 1, 3])
        for asked in (ALL, ONE):
            one, other = shared(7, *asked), shared(7, *asked)
            self.assertIsNot(one, other)
            self.assertIsNot(one.points, other.points)
            points = list(other.points)
            one.points.clear()
            self.assertEqual(other.points, points)
            self.assertEqual(shared(7, *asked).points, points)

    def test_no_tuple_in_common(self):
        self.assertIsNot(oval(7, ROUND).form, oval(7, ROUND).form)
        one, other = shared(7, *ALL), shared(7, *ALL)
        self.assertFalse([point for point, same in zip(one.points, other.points) if point is same])

    def test_nothing_remembered(self):
        # The same question by other primes in between, and the same prime with other questions.
        for _ in range(2):
            for prime in SOME_PRIMES:
                self.assertEqual(oval(prime, five_by(prime)).shows(prime, five_by(prime)), True)
                self.assertEqual(shared(prime, *ALL).points, points_along(prime, (1, 0, 0)))
            self.assertEqual(oval(7, ROUND).form, ROUND_FORM)
            self.assertEqual(oval(7, FLAT).three, [0, 1, 3])
            self.assertEqual(shared(7, *APART).rest, 3)
            self.assertEqual(shared(7, *ONE).points, [(0, 0, 1)])


if __name__ == "__main__":
    unittest.main()
