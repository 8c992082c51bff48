"""Promise 1 over the doors of numbering and ovals: what is refused, with which class, and which comes first."""

import unittest
from itertools import combinations

from onemeet.errors import Alike, BadForm, BadLine, BadNumber, BadPoint, BadPrime, MeetError, NotOn
from onemeet.numbering import number_of, number_on, point_by, point_on
from onemeet.ovals import oval, shared
from samples import (LATER, NO_PRIMES, PRIMES, SOME_PRIMES, Unhashable, five_by, no_fives, no_forms, no_numbers,
                     no_triples, refusal, some_triples, taken_by)

FORM = (1, 0, 0, 0, 0, 1)
LINE = (0, 1, 0)
POINT = (1, 0, 0)


class Primes(unittest.TestCase):
    def test_every_prime_is_let_by(self):
        for prime in PRIMES:
            for door, handed in taken_by(prime).items():
                with self.subTest(door=door.__name__, prime=prime):
                    self.assertIs(refusal(door, prime, *handed), None)

    def test_no_prime(self):
        for door, handed in taken_by(3).items():
            for bad in NO_PRIMES:
                with self.subTest(door=door.__name__, bad=repr(bad)):
                    self.assertIs(refusal(door, bad, *handed), BadPrime)

    def test_every_number_that_is_no_prime(self):
        for door, handed in taken_by(3).items():
            for number in range(-1000, 2100):
                if number not in PRIMES:
                    with self.subTest(door=door.__name__, number=number):
                        self.assertIs(refusal(door, number, *handed), BadPrime)

    def test_mistaken_by_powers(self):
        # For each there is a base whose power to one less than it leaves 1, as by a prime.
        for number in (15, 25, 49, 65, 85, 91, 121, 133, 217, 341, 451, 481, 561, 645, 671, 703, 781, 841, 961, 1105,
                       1729, 2047, 2465):
            self.assertTrue(any(pow(base, number - 1, number) == 1 for base in range(2, number - 1)), number)
            for door, handed in taken_by(3).items():
                with self.subTest(door=door.__name__, number=number):
                    self.assertIs(refusal(door, number, *handed), BadPrime)


class Arguments(unittest.TestCase):
    def check(self, refused, bads, door, prime, *handed):
        """Each bad one in the place of the None among what is handed in is refused so."""
        for bad in bads:
            with self.subTest(door=door.__name__, prime=prime, bad=repr(bad)):
                put = [bad if one is None else one for one in handed]
                self.assertIs(refusal(door, prime, *put), refused)

    def test_no_point(self):
        for prime in SOME_PRIMES:
            self.check(BadPoint, no_triples(prime), number_of, prime, None)
            self.check(BadPoint, no_triples(prime), number_on, prime, LINE, None)

    def test_no_line(self):
        for prime in SOME_PRIMES:
            self.check(BadLine, no_triples(prime), point_on, prime, None, 0)
            self.check(BadLine, no_triples(prime), number_on, prime, None, POINT)
            self.check(BadLine, no_triples(prime), shared, prime, FORM, None)

    def test_no_number(self):
        for prime in SOME_PRIMES:
            self.check(BadNumber, no_numbers(prime * prime + prime), point_by, prime, None)
            self.check(BadNumber, no_numbers(prime), point_on, prime, LINE, None)

    def test_no_form(self):
        for prime in SOME_PRIMES:
            self.check(BadForm, no_forms(prime), shared, prime, None, LINE)

    def test_no_five(self):
        for prime in SOME_PRIMES:
            self.check(BadPoint, no_fives(prime), oval, prime, None)

    def test_not_on(self):
        for prime in SOME_PRIMES:
            self.assertIs(refusal(number_on, prime, LINE, (0, 1, 0)), NotOn)
            self.assertIs(refusal(number_on, prime, LINE, (1, 1, 0)), NotOn)

    def test_alike(self):
        for prime in SOME_PRIMES:
            five = five_by(prime)
            for one, other in combinations(range(5), 2):
                for same in (five[one], tuple(list(five[one]))):
                    put = [same if at == other else point for at, point in enumerate(five)]
                    self.check(Alike, [put], oval, prime, None)
            self.check(Alike, [[point] * 5 for point in five], oval, prime, None)
            self.check(Alike, [[(1, 0, 0), (0, 1, 0)] * 2 + [(0, 0, 1)]], oval, prime, None)

    def test_of_another_prime(self):
        self.assertIs(refusal(number_of, 5, (1, 6, 0)), BadPoint)
        self.assertIs(refusal(point_on, 5, (1, 6, 0), 0), BadLine)
        self.assertIs(refusal(number_on, 5, (0, 0, 1), (1, 5, 0)), BadPoint)
        self.assertIs(refusal(number_on, 5, (1, 5, 0), (0, 0, 1)), BadLine)
        self.assertIs(refusal(oval, 5, five_by(7)), BadPoint)
        self.assertIs(refusal(oval, 7, five_by(5)), None)
        self.assertIs(refusal(shared, 5, (0, 0, 1, 0, 0, 6), LINE), BadForm)
        self.assertIs(refusal(shared, 5, FORM, (1, 0, 5)), BadLine)
        self.assertIs(refusal(point_by, 5, 31), BadNumber)
        self.assertIs(refusal(point_by, 7, 31), None)

    def test_refused_are_caught_as_their_bases(self):
        calls = [(point_by, 4, 0), (point_by, 7, -1), (number_of, 7, []), (point_on, 7, None, 0),
                 (point_on, 7, LINE, 8), (number_on, 7, LINE, 5), (number_on, 7, LINE, LINE), (oval, 7, None),
                 (oval, 7, [POINT] * 5), (shared, 7, LINE, LINE), (shared, 7, FORM, FORM)]
        for door, *handed in calls:
            with self.subTest(door=door.__name__, handed=handed):
                self.assertRaises(MeetError, door, *handed)
                self.assertRaises(ValueError, door, *handed)
                self.assertEqual(refusal(door, *handed).__bases__, (MeetError,))

    def test_nothing_refused_is_changed(self):
        for door in LATER:
            lists = [[1, 0, 0], [POINT] * 5, [POINT, [0, 1, 0], LINE, (1, 1, 1), FORM], [0]]
            before = [list(row) for row in lists]
            for row in lists:
                for many in range(1, 4):
                    refusal(door, *[7, row, row, row][:many])
            self.assertEqual(lists, before)


class Order(unittest.TestCase):
    # For each door what is refused in which order; what cannot go together with the later ones is left out.
    bads = {BadPrime: [2, 9, 999, True, None, "7", []], BadForm: no_forms(7), BadLine: no_triples(7),
            BadPoint: no_triples(7), BadNumber: no_numbers(7 * 7 + 7)}

    def check(self, door, *refused):
        """Of two or more bad arguments, the first that the interface names tells the class."""
        good = [7] + taken_by(7)[door]
        self.assertEqual(len(good), len(refused))
        for first, second in combinations(range(len(good)), 2):
            for bad in self.bads[refused[first]]:
                for other in self.bads[refused[second]]:
                    put = [bad if at == first else other if at == second else one for at, one in enumerate(good)]
                    self.assertIs(refusal(door, *put), refused[first], (door.__name__, repr(put)))
        for first in range(len(good)):
            put = good[:first] + [self.bads[one][-1] for one in refused[first:]]
            self.assertIs(refusal(door, *put), refused[first], (door.__name__, repr(put)))

    def test_two_bad_arguments(self):
        self.check(point_by, BadPrime, BadNumber)
        self.check(number_of, BadPrime, BadPoint)
        self.check(point_on, BadPrime, BadLine, BadNumber)
        self.check(number_on, BadPrime, BadLine, BadPoint)
        self.check(shared, BadPrime, BadForm, BadLine)

    def test_prime_first_at_oval(self):
        for bad in self.bads[BadPrime]:
            for five in no_fives(7) + [[POINT] * 5]:
                self.assertIs(refusal(oval, bad, five), BadPrime, (repr(bad), repr(five)))

    def test_prime_and_point_before_not_on(self):
        for bad in self.bads[BadPrime]:
            self.assertIs(refusal(number_on, bad, LINE, LINE), BadPrime)
        for bad in no_triples(7):
            # What is neither a line nor a point is no point on the line either.
            self.assertIs(refusal(number_on, 7, bad, LINE), BadLine)
            self.assertIs(refusal(number_on, 7, LINE, bad), BadPoint)
            self.assertIs(refusal(number_on, 7, bad, bad), BadLine)

    def test_point_before_alike(self):
        five = five_by(7)
        for bad in no_triples(7):
            with self.subTest(bad=repr(bad)):
                self.assertIs(refusal(oval, 7, [bad] * 5), BadPoint)
                self.assertIs(refusal(oval, 7, [five[0], five[0], five[1], five[2], bad]), BadPoint)
                self.assertIs(refusal(oval, 7, [bad, five[0], five[0], five[1], bad]), BadPoint)
        for bad in ([POINT] * 4, [POINT] * 6, (POINT,) * 5, [POINT] * 2):
            self.assertIs(refusal(oval, 7, bad), BadPoint)

    def test_bad_ones_that_python_takes_for_good_ones(self):
        five = five_by(7)
        for bad in ((True, 0, 0), (1, False, 0), (1, 0, False), Unhashable(), (Unhashable(), 0, 0)):
            with self.subTest(bad=repr(bad)):
                self.assertTrue(POINT == bad)
                self.assertIs(refusal(oval, 7, [POINT, bad] + five[2:]), BadPoint)
                self.assertIs(refusal(oval, 7, five[:4] + [bad]), BadPoint)
                self.assertIs(refusal(number_of, 7, bad), BadPoint)
        for bad in (True, False):
            self.assertIs(refusal(point_by, 7, bad), BadNumber)
            self.assertIs(refusal(point_on, 7, LINE, bad), BadNumber)


class Unlike(unittest.TestCase):
    def test_unlike_points_are_taken(self):
        for prime in SOME_PRIMES:
            points = some_triples(prime, 12)
            for start in range(len(points) - 5):
                self.assertIs(refusal(oval, prime, points[start:start + 5]), None)


if __name__ == "__main__":
    unittest.main()
