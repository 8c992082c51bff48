"""Promise 2: one line of two points, one point of two lines, and the two theorems of its bracket."""

import unittest
from itertools import combinations, permutations

from onemeet.planes import join, meet, on
from samples import crossed, points_along, some_triples, triples


def on_one_line(prime, points):
    """Whether three points are on one line."""
    first, second, third = points
    if first == second:
        return True
    return on(prime, third, join(prime, first, second))


def points_of(prime, line, but, many):
    """The first points that are on the line, without those in `but`."""
    return [point for point in points_along(prime, line) if point not in but][:many]


class JustOne(unittest.TestCase):
    def test_just_one_line(self):
        for prime in (3, 5, 7):
            lines = triples(prime)
            through = {point: {line for line in lines if on(prime, point, line)} for point in triples(prime)}
            for one, other in combinations(triples(prime), 2):
                with self.subTest(prime=prime, one=one, other=other):
                    self.assertEqual(through[one] & through[other], {join(prime, one, other)})
                    self.assertEqual(join(prime, other, one), join(prime, one, other))

    def test_just_one_point(self):
        for prime in (3, 5, 7):
            points = triples(prime)
            along = {line: {point for point in points if on(prime, point, line)} for line in triples(prime)}
            for one, other in combinations(triples(prime), 2):
                with self.subTest(prime=prime, one=one, other=other):
                    self.assertEqual(along[one] & along[other], {meet(prime, one, other)})
                    self.assertEqual(meet(prime, other, one), meet(prime, one, other))

    def test_on_both_by_larger_primes(self):
        for prime in (11, 13, 31, 101, 499, 991, 997):
            for one, other in combinations(some_triples(prime, 40), 2):
                with self.subTest(prime=prime, one=one, other=other):
                    line, point = join(prime, one, other), meet(prime, one, other)
                    self.assertIs(on(prime, one, line), True)
                    self.assertIs(on(prime, other, line), True)
                    self.assertIs(on(prime, point, one), True)
                    self.assertIs(on(prime, point, other), True)
                    self.assertEqual(join(prime, other, one), line)
                    self.assertEqual(meet(prime, other, one), point)

    def test_every_first_number_is_scaled(self):
        # The unscaled line of (1, 0, 0) and (1, a, 1) is (0, -1, a), that of (0, 0, 1) and (1, a, 0) is (-a, 1, 0).
        for prime in (3, 5, 7, 11, 31, 997):
            for a in range(1, prime):
                for function in (join, meet):
                    with self.subTest(prime=prime, a=a, function=function.__name__):
                        self.assertEqual(function(prime, (1, 0, 0), (1, a, 1)), (0, 1, prime - a))
                        first, second, third = function(prime, (0, 0, 1), (1, a, 0))
                        self.assertEqual((first, third), (1, 0))
                        self.assertEqual((1 + a * second) % prime, 0)

    def test_there_and_back(self):
        for prime in (3, 7, 101, 997):
            rows = some_triples(prime, 14)
            for one, two, three in combinations(rows, 3):
                if not on_one_line(prime, (one, two, three)):
                    with self.subTest(prime=prime, rows=(one, two, three)):
                        self.assertEqual(meet(prime, join(prime, one, two), join(prime, one, three)), one)
                        self.assertEqual(join(prime, meet(prime, one, two), meet(prime, one, three)), one)


class TwoLinesOfThree(unittest.TestCase):
    def crossings(self, prime, firsts, seconds):
        (a, b, c), (d, e, f) = firsts, seconds
        return [meet(prime, join(prime, a, e), join(prime, b, d)), meet(prime, join(prime, a, f), join(prime, c, d)),
                meet(prime, join(prime, b, f), join(prime, c, e))]

    def check(self, prime, firsts, seconds):
        with self.subTest(prime=prime, firsts=firsts, seconds=seconds):
            found = self.crossings(prime, firsts, seconds)
            self.assertEqual(len(set(found)), 3)
            self.assertIs(on_one_line(prime, found), True)

    def test_all_by_three(self):
        for one, other in permutations(triples(3), 2):
            between = [meet(3, one, other)]
            firsts = points_of(3, one, between, 3)
            for seconds in permutations(points_of(3, other, between, 3)):
                self.check(3, firsts, seconds)

    def test_some_by_larger(self):
        for prime in (5, 7, 11, 101, 997):
            rows = some_triples(prime, 4)
            for one, other in combinations(rows, 2):
                between = [meet(prime, one, other)]
                self.check(prime, points_of(prime, one, between, 3), points_of(prime, other, between, 3))
                self.check(prime, points_of(prime, one, between, 4)[:0:-1], points_of(prime, other, between, 3))


class SeenFromOnePoint(unittest.TestCase):
    def check(self, prime, firsts, seconds):
        with self.subTest(prime=prime, firsts=firsts, seconds=seconds):
            found = [meet(prime, join(prime, firsts[i], firsts[k]), join(prime, seconds[i], seconds[k]))
                     for i, k in ((0, 1), (0, 2), (1, 2))]
            self.assertIs(on_one_line(prime, found), True)

    def check_sights(self, prime, eye, sights, step):
        """Two threes behind one another on three lines through one point, of all choices by that step."""
        seen = [list(permutations(points_of(prime, line, [eye], 4), 2)) for line in sights]
        for count, ((a, d), (b, e), (c, f)) in enumerate((x, y, z) for x in seen[0] for y in seen[1] for z in seen[2]):
            if count % step == 0:
                self.check(prime, (a, b, c), (d, e, f))

    def test_all_by_three(self):
        for eye in triples(3):
            through = [line for line in triples(3) if crossed(3, eye, line) == 0]
            for sights in combinations(through, 3):
                self.check_sights(3, eye, sights, 1)

    def test_some_by_larger(self):
        for prime in (5, 7, 11, 101, 997):
            for eye in some_triples(prime, 3)[:5]:
                others = [point for point in some_triples(prime, 9) if point != eye]
                through = sorted({join(prime, eye, point) for point in others})[:3]
                self.check_sights(prime, eye, through, 31)


if __name__ == "__main__":
    unittest.main()
