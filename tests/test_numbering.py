"""Promise 3: the numbers of all points, and of the points of a line."""

import unittest

from onemeet.errors import BadNumber, NotOn
from onemeet.numbering import number_of, number_on, point_by, point_on
from samples import (PRIMES, SOME_PRIMES, crossed, drawn, edge_triples, no_numbers, points_along, refusal,
                     some_triples, triples)

LARGER = [11, 13, 31, 101, 499, 983, 991, 997]


class Plane(unittest.TestCase):
    def check(self, prime, number, point):
        told = point_by(prime, number)
        self.assertEqual(told, point)
        self.assertIs(type(told), tuple)
        self.assertEqual([type(member) for member in told], [int, int, int])
        self.assertEqual(number_of(prime, point), number)
        self.assertIs(type(number_of(prime, point)), int)

    def test_all_by_small_primes(self):
        for prime in (3, 5, 7, 11):
            points = triples(prime)
            self.assertEqual(points, sorted(points))
            self.assertEqual(len(points), prime * prime + prime + 1)
            for number, point in enumerate(points):
                with self.subTest(prime=prime, number=number):
                    self.check(prime, number, point)

    def test_by_hand(self):
        told = {0: (0, 0, 1), 1: (0, 1, 0), 2: (0, 1, 1), 3: (0, 1, 2), 4: (1, 0, 0), 5: (1, 0, 1), 7: (1, 1, 0),
                12: (1, 2, 2)}
        for number, point in told.items():
            self.check(3, number, point)
        # 998 numbers stand before (1, 0, 0), and 997 for each number before the second.
        self.check(997, 998 + 997 * 500 + 7, (1, 500, 7))

    def test_ends_by_every_prime(self):
        for prime in PRIMES:
            with self.subTest(prime):
                last = prime - 1
                ends = {0: (0, 0, 1), 1: (0, 1, 0), 2: (0, 1, 1), prime: (0, 1, last), prime + 1: (1, 0, 0),
                        prime + 2: (1, 0, 1), 2 * prime: (1, 0, last), 2 * prime + 1: (1, 1, 0),
                        prime * prime: (1, last - 1, last), prime * prime + 1: (1, last, 0),
                        prime * prime + prime: (1, last, last)}
                for number, point in ends.items():
                    self.check(prime, number, point)

    def test_there_and_back_by_larger_primes(self):
        for prime in LARGER:
            beyond = prime * prime + prime + 1
            for number in drawn(300, beyond) + [0, 1, prime, prime + 1, beyond - 1]:
                with self.subTest(prime=prime, number=number):
                    self.assertEqual(number_of(prime, point_by(prime, number)), number)
            for point in some_triples(prime, 200):
                with self.subTest(prime=prime, point=point):
                    self.assertEqual(point_by(prime, number_of(prime, point)), point)

    def test_in_order_by_larger_primes(self):
        for prime in LARGER:
            numbers = sorted(set(drawn(300, prime * prime + prime + 1)))
            told = [point_by(prime, number) for number in numbers]
            self.assertEqual(told, sorted(set(told)))
            points = sorted(some_triples(prime, 200))
            back = [number_of(prime, point) for point in points]
            self.assertEqual(back, sorted(set(back)))


class Line(unittest.TestCase):
    def check(self, prime, line, points):
        for number, point in enumerate(points):
            with self.subTest(prime=prime, line=line, number=number):
                told = point_on(prime, line, number)
                self.assertEqual(told, point)
                self.assertIs(type(told), tuple)
                self.assertEqual([type(member) for member in told], [int, int, int])
                self.assertEqual(number_on(prime, line, point), number)
                self.assertIs(type(number_on(prime, line, point)), int)

    def test_all_by_small_primes(self):
        for prime in (3, 5, 7, 11):
            points = triples(prime)
            for line in points:
                along = [point for point in points if crossed(prime, point, line) == 0]
                self.assertEqual(len(along), prime + 1)
                self.check(prime, line, along)

    def test_drawn_lines_of_larger_primes(self):
        for prime in LARGER:
            for line in some_triples(prime, 12):
                self.check(prime, line, points_along(prime, line))

    def test_three_corners_as_lines(self):
        for prime in (3, 5, 31, 997):
            steps = range(prime)
            self.check(prime, (1, 0, 0), [(0, 0, 1)] + [(0, 1, step) for step in steps])
            self.check(prime, (0, 1, 0), [(0, 0, 1)] + [(1, 0, step) for step in steps])
            self.check(prime, (0, 0, 1), [(0, 1, 0)] + [(1, step, 0) for step in steps])

    def test_lines_through_the_first_point(self):
        for prime in (3, 5, 31, 997):
            for by in (1, 2, prime - 1):
                # Of a line (1, by, 0) the second number is one that leaves 1 less than none, times by.
                second = next(number for number in range(prime) if (1 + by * number) % prime == 0)
                self.check(prime, (1, by, 0), [(0, 0, 1)] + [(1, second, step) for step in range(prime)])

    def test_edges_by_every_prime(self):
        for prime in PRIMES:
            for line in edge_triples(prime):
                along = points_along(prime, line)
                for number in (0, 1, 2, prime - 1, prime):
                    with self.subTest(prime=prime, line=line, number=number):
                        self.assertEqual(point_on(prime, line, number), along[number])
                        self.assertEqual(number_on(prime, line, along[number]), number)


class Refused(unittest.TestCase):
    def test_no_number_of_a_point(self):
        for prime in SOME_PRIMES:
            for bad in no_numbers(prime * prime + prime):
                with self.subTest(prime=prime, bad=repr(bad)):
                    self.assertIs(refusal(point_by, prime, bad), BadNumber)

    def test_no_number_on_a_line(self):
        for prime in SOME_PRIMES:
            for line in edge_triples(prime):
                for bad in no_numbers(prime):
                    with self.subTest(prime=prime, line=line, bad=repr(bad)):
                        self.assertIs(refusal(point_on, prime, line, bad), BadNumber)

    def test_just_the_last(self):
        for prime in PRIMES:
            with self.subTest(prime):
                self.assertIs(refusal(point_by, prime, prime * prime + prime), None)
                self.assertIs(refusal(point_by, prime, prime * prime + prime + 1), BadNumber)
                self.assertIs(refusal(point_on, prime, (1, 0, 0), prime), None)
                self.assertIs(refusal(point_on, prime, (1, 0, 0), prime + 1), BadNumber)

    def test_not_on_the_line(self):
        for prime in (3, 5, 7):
            for line in triples(prime):
                for point in triples(prime):
                    with self.subTest(prime=prime, line=line, point=point):
                        refused = None if crossed(prime, point, line) == 0 else NotOn
                        self.assertIs(refusal(number_on, prime, line, point), refused)
        for prime in LARGER:
            for line in some_triples(prime, 20):
                for point in some_triples(prime, 20):
                    with self.subTest(prime=prime, line=line, point=point):
                        refused = None if crossed(prime, point, line) == 0 else NotOn
                        self.assertIs(refusal(number_on, prime, line, point), refused)


class New(unittest.TestCase):
    def test_new_each_time(self):
        for prime in (3, 997):
            for number in (0, 1, 2, prime, prime + 1, prime * prime + prime):
                with self.subTest(prime=prime, number=number):
                    self.assertIsNot(point_by(prime, number), point_by(prime, number))
            for line in edge_triples(prime):
                for number in (0, 1, prime):
                    with self.subTest(prime=prime, line=line, number=number):
                        told = point_on(prime, line, number)
                        self.assertIsNot(told, point_on(prime, line, number))
                        self.assertIsNot(told, line)


if __name__ == "__main__":
    unittest.main()
