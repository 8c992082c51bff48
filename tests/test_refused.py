"""Promise 1: what is refused, with which class, and which refusal comes first."""

import unittest

from onemeet.errors import Alike, BadLine, BadPoint, BadPrime, MeetError
from onemeet.planes import join, meet, on
from samples import NO_PRIMES, PLANES, PRIMES, SOME_PRIMES, Unhashable, no_triples, refusal, some_triples

FIRST = (1, 0, 0)
SECOND = (0, 1, 0)


class Refused(unittest.TestCase):
    def test_no_prime(self):
        for function in PLANES:
            for bad in NO_PRIMES:
                with self.subTest(function=function.__name__, bad=repr(bad)):
                    self.assertIs(refusal(function, bad, FIRST, SECOND), BadPrime)

    def test_every_number_that_is_no_prime(self):
        for function in PLANES:
            for number in range(-1000, 2100):
                if number not in PRIMES:
                    with self.subTest(function=function.__name__, number=number):
                        self.assertIs(refusal(function, number, FIRST, SECOND), BadPrime)

    def test_no_point_or_line(self):
        refused = [(on, BadPoint, BadLine), (join, BadPoint, BadPoint), (meet, BadLine, BadLine)]
        for function, first, second in refused:
            for prime in SOME_PRIMES:
                for bad in no_triples(prime):
                    with self.subTest(function=function.__name__, prime=prime, bad=repr(bad)):
                        self.assertIs(refusal(function, prime, bad, SECOND), first)
                        self.assertIs(refusal(function, prime, FIRST, bad), second)

    def test_of_another_prime(self):
        self.assertIs(on(7, (1, 6, 0), (1, 0, 6)), False)
        self.assertIs(refusal(on, 5, (1, 6, 0), FIRST), BadPoint)
        self.assertIs(refusal(on, 5, FIRST, (1, 6, 0)), BadLine)
        self.assertIs(refusal(join, 5, FIRST, (1, 6, 0)), BadPoint)
        self.assertIs(refusal(meet, 5, (1, 6, 0), FIRST), BadLine)

    def test_alike(self):
        for prime in SOME_PRIMES:
            for row in some_triples(prime, 12):
                with self.subTest(prime=prime, row=row):
                    again = tuple(list(row))
                    self.assertIs(refusal(join, prime, row, row), Alike)
                    self.assertIs(refusal(meet, prime, row, row), Alike)
                    self.assertIs(refusal(join, prime, row, again), Alike)
                    self.assertIs(refusal(meet, prime, row, again), Alike)
                    self.assertIs(refusal(on, prime, row, again), None)

    def test_refused_are_caught_as_their_bases(self):
        calls = [(on, 4, FIRST, SECOND), (on, 7, None, SECOND), (on, 7, FIRST, None), (join, 7, FIRST, FIRST),
                 (join, 7, FIRST, []), (meet, 7, FIRST, FIRST), (meet, 7, [], FIRST), (meet, "7", FIRST, SECOND)]
        for function, *handed in calls:
            with self.subTest(function=function.__name__, handed=handed):
                self.assertRaises(MeetError, function, *handed)
                self.assertRaises(ValueError, function, *handed)
                self.assertEqual(refusal(function, *handed).__bases__, (MeetError,))

    def test_nothing_refused_is_changed(self):
        for function in PLANES:
            row, table, group = [1, 0, 0], {0: 1}, {1}
            inner = (1, row, 0)
            for bad in (row, table, group, inner):
                for handed in ((bad, FIRST, SECOND), (7, bad, SECOND), (7, FIRST, bad)):
                    self.assertIsNotNone(refusal(function, *handed))
            self.assertEqual((row, table, group, inner), ([1, 0, 0], {0: 1}, {1}, (1, [1, 0, 0], 0)))


class Order(unittest.TestCase):
    def test_prime_first(self):
        for function in PLANES:
            for bad in (2, 9, 1009, True, None, "7", []):
                for one, other in ((None, FIRST), (FIRST, None), (None, None), (FIRST, FIRST), ((1, 8, 8), (2, 0, 0))):
                    with self.subTest(function=function.__name__, bad=bad, one=one, other=other):
                        self.assertIs(refusal(function, bad, one, other), BadPrime)

    def test_point_before_line(self):
        for bad in no_triples(7):
            with self.subTest(bad=repr(bad)):
                self.assertIs(refusal(on, 7, bad, bad), BadPoint)
                self.assertIs(refusal(on, 7, bad, (0, 0, 0)), BadPoint)
                self.assertIs(refusal(on, 7, FIRST, bad), BadLine)

    def test_bad_before_alike(self):
        for function, refused in ((join, BadPoint), (meet, BadLine)):
            for bad in no_triples(7):
                with self.subTest(function=function.__name__, bad=repr(bad)):
                    self.assertIs(refusal(function, 7, bad, bad), refused)

    def test_bad_second_before_alike(self):
        # Python's == takes each of these for the same as the first argument.
        for function, refused in ((join, BadPoint), (meet, BadLine)):
            for bad in ((True, 0, 0), (1, False, 0), (1, 0, False), Unhashable(), (Unhashable(), 0, 0)):
                with self.subTest(function=function.__name__, bad=repr(bad)):
                    self.assertTrue(FIRST == bad)
                    self.assertIs(refusal(function, 7, FIRST, bad), refused)
                    self.assertIs(refusal(function, 7, bad, FIRST), refused)


if __name__ == "__main__":
    unittest.main()
