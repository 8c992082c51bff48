"""Promise 5: the points that a line shares with a form, or the rest that bars them."""

import unittest
from itertools import combinations, product

from onemeet.answers import Apart, Shared
from onemeet.ovals import shared
from samples import (PRIMES, crossed, drawn, edge_triples, forms, left, points_along, rest, scaled, some_triples,
                     triples, two_lines)

LARGER = [11, 13, 31, 101, 499, 983, 991, 997]


def of_both(prime, form, line):
    """All points that are on both, found by going through the line's."""
    return [point for point in points_along(prime, line) if left(prime, form, point) == 0]


def some_forms(prime, many):
    """Drawn forms, some with many numbers 0 or with the first ones 0."""
    told = []
    for start in range(many):
        numbers = [number if start % 3 or number % 2 else 0 for number in drawn(6, prime, start)]
        numbers[:start % 5] = [0] * (start % 5)
        told.append(scaled(prime, numbers if any(numbers) else [0, 0, 0, 0, 0, 1]))
    return list(dict.fromkeys(told))


def few_numbers(prime, many):
    """All forms with so many numbers other than 0, or fewer."""
    told = []
    for count in range(1, many + 1):
        for places in combinations(range(6), count):
            for numbers in product(range(1, prime), repeat=count - 1):
                row = [0] * 6
                for place, number in zip(places, (1,) + numbers):
                    row[place] = number
                told.append(tuple(row))
    return told


def barred(prime, number):
    """Whether no number's square leaves the number."""
    return all(root * root % prime != number for root in range(prime))


class Told(unittest.TestCase):
    def check(self, prime, form, line):
        told = shared(prime, form, line)
        points = of_both(prime, form, line)
        # Formatting a sub-test for each of these would cost more than the checks.
        where = (prime, form, line)
        if points:
            self.assertIs(type(told), Shared, where)
            self.assertIs(type(told.points), list, where)
            self.assertEqual(told.points, points, where)
            self.assertTrue(all(type(point) is tuple for point in told.points), where)
            self.assertTrue(all(type(number) is int for point in told.points for number in point), where)
        else:
            self.assertIs(type(told), Apart, where)
            self.assertIs(type(told.rest), int, where)
            self.assertEqual(told.rest, rest(prime, form, line), where)
            self.assertTrue(barred(prime, told.rest), where)
        self.assertIs(told.shows(prime, form, line), True, where)
        return told

    def check_all(self, prime, some):
        lines = triples(prime)
        kinds = {type(self.check(prime, form, line)) for form in some for line in lines}
        self.assertEqual(kinds, {Shared, Apart})

    def test_all_by_three(self):
        self.check_all(3, forms(3))

    def test_some_by_five_and_seven(self):
        self.check_all(5, forms(5)[::7])
        self.check_all(7, forms(7)[::97])

    def test_forms_of_few_numbers(self):
        self.check_all(5, few_numbers(5, 3))
        self.check_all(7, few_numbers(7, 2))
        self.check_all(11, few_numbers(11, 2)[::5])

    def test_forms_of_two_lines(self):
        # They have a point with each line, their own two are on them whole, and one line twice is no other case.
        for prime, step in ((3, 1), (5, 7), (7, 31)):
            lines = triples(prime)
            for one, other in list(product(lines, lines))[::step]:
                form = two_lines(prime, one, other)
                for line in lines:
                    told = self.check(prime, form, line)
                    self.assertIs(type(told), Shared)
                    whole = line in (one, other)
                    self.assertEqual(len(told.points) == prime + 1, whole, (prime, form, line))
                    if one == other and not whole:
                        self.assertEqual(len(told.points), 1, (prime, form, line))
        for prime in LARGER:
            for line in some_triples(prime, 6):
                self.check_two_lines(prime, line, line)
                for other in edge_triples(prime)[::3]:
                    self.check_two_lines(prime, line, other)

    def check_two_lines(self, prime, one, other):
        form = two_lines(prime, one, other)
        for line in (one, other):
            told = self.check(prime, form, line)
            self.assertEqual(len(told.points), prime + 1)
            self.assertEqual(told.points, points_along(prime, line))
        for line in some_triples(prime, 1)[:3]:
            self.assertIs(type(self.check(prime, form, line)), Shared)

    def test_drawn_by_larger_primes(self):
        for prime in LARGER:
            some = some_forms(prime, 25)
            kinds = [self.check(prime, form, line) for form in some for line in some_triples(prime, 3)]
            self.assertEqual({type(told) for told in kinds}, {Shared, Apart})
            self.assertTrue({1, 2} <= {len(told.points) for told in kinds if isinstance(told, Shared)})

    def test_every_prime(self):
        for prime in PRIMES:
            self.check(prime, (1, 1, 0, 0, 0, 0), (0, 0, 1))
            self.check(prime, (0, 1, 0, 0, prime - 1, 0), (1, 1, prime - 1))
            self.check(prime, (0, 0, 0, 0, 0, 1), (1, 0, 0))

    def test_lines_of_one_oval(self):
        # Of y y = x z a line has two points, one or none: one with each of the points, two with each two of them.
        for prime in (3, 5, 7, 11):
            told = [shared(prime, (0, 1, 0, 0, prime - 1, 0), line) for line in triples(prime)]
            many = [len(answer.points) if isinstance(answer, Shared) else 0 for answer in told]
            self.assertEqual(many.count(1), prime + 1)
            self.assertEqual(many.count(2), (prime + 1) * prime // 2)
            self.assertEqual(many.count(0), (prime - 1) * prime // 2)

    def test_by_hand(self):
        # x x + y y on z = 0: the first points are (0, 1, 0) and (1, 0, 0), so A, B and C are 1, 0 and 1.
        for prime in (3, 7, 11, 31):
            told = shared(prime, (1, 1, 0, 0, 0, 0), (0, 0, 1))
            self.assertEqual((type(told), told.rest), (Apart, (prime - 4) % prime))
        self.assertEqual(shared(5, (1, 1, 0, 0, 0, 0), (0, 0, 1)).points, [(1, 2, 0), (1, 3, 0)])
        # x x - 3 y y on z = 0: A, B and C are -3, 0 and 1, and 3 is no square by 5 and by 7.
        self.assertEqual(shared(5, (1, 2, 0, 0, 0, 0), (0, 0, 1)).rest, 2)
        self.assertEqual(shared(7, (1, 4, 0, 0, 0, 0), (0, 0, 1)).rest, 5)
        self.assertEqual(shared(7, (1, 0, 0, 0, 0, 0), (1, 0, 0)).points, [(0, 0, 1)] + [(0, 1, z) for z in range(7)])
        self.assertEqual(shared(997, (0, 1, 0, 0, 996, 0), (0, 1, 0)).points, [(0, 0, 1), (1, 0, 0)])


class Shows(unittest.TestCase):
    def test_every_answer_by_three(self):
        for form in forms(3):
            for line in triples(3):
                right, along = of_both(3, form, line), points_along(3, line)
                for many in range(5):
                    for points in combinations(along, many):
                        shows = Shared(points).shows(3, form, line)
                        self.assertIs(shows, list(points) == right and many > 0, (form, line, points))
                for number in range(-1, 4):
                    shows = Apart(number).shows(3, form, line)
                    self.assertIs(shows, not right and number == rest(3, form, line), (form, line, number))

    def test_every_rest(self):
        for prime, step in ((5, 101), (7, 997)):
            for form in forms(prime)[::step]:
                for line in triples(prime):
                    right = None if of_both(prime, form, line) else rest(prime, form, line)
                    shown = [number for number in range(-prime, 3 * prime) if Apart(number).shows(prime, form, line)]
                    self.assertEqual(shown, [] if right is None else [right], (prime, form, line))

    def samples(self):
        for prime in (5, 7, 31, 997):
            for form in some_forms(prime, 12) + [two_lines(prime, (1, 1, 0), (0, 1, 0)), (1, 0, 0, 0, 0, 0)]:
                for line in [(1, 0, 0), (1, 1, 0), (0, 1, 0)] + some_triples(prime, 5)[:5]:
                    yield prime, form, line

    def test_points_by_hand(self):
        for prime, form, line in self.samples():
            right = of_both(prime, form, line)
            along = points_along(prime, line)
            for points in self.wrong_points(prime, right, along):
                with self.subTest(prime=prime, form=form, line=line, points=points[:9]):
                    self.assertIs(Shared(points).shows(prime, form, line), bool(points) and points == right)
            self.assertIs(Shared(right).shows(prime, form, line), bool(right))

    def wrong_points(self, prime, right, along):
        """Lists that are right only where they are the right one after all."""
        told = [[], right[1:], right[:-1], right + right[:1], right[:1] + right, right + right, right[::-1],
                right[1:] + right[:1], along, along[:1], along[1:2], along[-1:]]
        told += [right[:at] + right[at + 1:] for at in range(min(len(right), 3))]
        told += [sorted(right + [point]) for point in along[:3] + along[-1:] if point not in right]
        told += [right + [(0, 0, 1)], right + [(1, prime, 0)], [(1, 0, prime)], [(0, 1, prime + 2)] + right]
        told += [[(x, y, z + prime) for x, y, z in right], [(x, y, z - prime) for x, y, z in right]]
        return told

    def test_rest_by_hand(self):
        for prime, form, line in self.samples():
            apart, number = not of_both(prime, form, line), rest(prime, form, line)
            with self.subTest(prime=prime, form=form, line=line):
                self.assertIs(Apart(number).shows(prime, form, line), apart)
                for other in (number + prime, number - prime, -number, number + 1, number - 1, prime - number,
                              4 * number % prime, number + prime * 10**100, -10**200, prime):
                    right = apart and other == number
                    self.assertIs(Apart(other).shows(prime, form, line), right)

    def test_never_both(self):
        for prime, form, line in self.samples():
            with self.subTest(prime=prime, form=form, line=line):
                points, number = of_both(prime, form, line), rest(prime, form, line)
                shown = (Shared(points).shows(prime, form, line), Apart(number).shows(prime, form, line))
                self.assertEqual(shown, (bool(points), not points))
                self.assertEqual(not points, barred(prime, number))

    def test_rest_where_a_point_is_shared(self):
        # The rests are squares here, 0 among them, and so no Apart is right.
        for prime in (3, 5, 31, 997):
            for line in some_triples(prime, 5):
                form = two_lines(prime, line, (1, 1, 1))
                for other in some_triples(prime, 5):
                    self.assertIs(Apart(rest(prime, form, other)).shows(prime, form, other), False)

    def test_of_other_forms_and_lines(self):
        for prime in (3, 5, 7, 31, 997):
            asked = [(form, line) for form in some_forms(prime, 8) for line in some_triples(prime, 4)[:4]]
            told = [shared(prime, form, line) for form, line in asked]
            rights = [(of_both(prime, form, line), rest(prime, form, line)) for form, line in asked]
            for answer in told:
                for (form, line), (points, number) in zip(asked, rights):
                    if isinstance(answer, Shared):
                        right = bool(points) and answer.points == points
                    else:
                        right = not points and answer.rest == number
                    self.assertIs(answer.shows(prime, form, line), right, (prime, form, line, vars(answer)))

    def test_of_another_prime(self):
        # x x + y y on z = 0: by 7 the rest is 3 and no square, by 5 two points are shared.
        form, line = (1, 1, 0, 0, 0, 0), (0, 0, 1)
        self.assertEqual([Apart(3).shows(prime, form, line) for prime in (5, 7, 11)], [False, True, False])
        self.assertEqual([Shared([(1, 2, 0), (1, 3, 0)]).shows(prime, form, line) for prime in (5, 7, 13)],
                         [True, False, False])
        # Of y = 0 and z = 0 there is one point by all primes.
        self.assertEqual([Shared([(1, 0, 0)]).shows(prime, (0, 1, 0, 0, 0, 0), line) for prime in (3, 5, 997)],
                         [True, True, True])
        self.assertEqual(crossed(997, (1, 0, 0), line), 0)


if __name__ == "__main__":
    unittest.main()
