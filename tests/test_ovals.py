"""Promise 4: the one form of five points, or three of them that are on one line."""

import unittest
from itertools import combinations, permutations

from onemeet.answers import InLine, Oval
from onemeet.ovals import oval
from samples import drawn, forms, left, lined_up, points_along, some_triples, threes_in_line, triples, two_lines

LARGER = [11, 13, 31, 101, 499, 983, 991, 997]


def arcs(prime):
    """All fives of points, in order, no three of them on one line."""
    points = triples(prime)
    told = [[point] for point in points]
    for _ in range(4):
        told = [arc + [point] for arc in told for point in points if point > arc[-1]
                and not any(lined_up(prime, one, other, point) for one, other in combinations(arc, 2))]
    return told


def some_points(prime):
    """All points by a small prime, drawn ones by a larger."""
    return triples(prime) if prime < 32 else some_triples(prime, 60)


def some_fives(prime, many):
    """Drawn fives of unlike points."""
    points = some_points(prime)
    told = [list(dict.fromkeys(drawn(60, len(points), start)))[:5] for start in range(many)]
    return [[points[at] for at in five] for five in told]


def some_arcs(prime, many):
    """Drawn fives of points, no three of them on one line."""
    points = some_points(prime)
    told = []
    for start in range(many):
        arc = []
        # Each arc of fewer points can be enlarged, by every prime from 5 on, so a long row of points is enough.
        for at in drawn(20 * len(points), len(points), start):
            point = points[at]
            if len(arc) == 5:
                break
            if point not in arc and not any(lined_up(prime, one, other, point) for one, other in combinations(arc, 2)):
                arc.append(point)
        told.append(arc)
    assert all(len(arc) == 5 for arc in told)
    return told


class Told(unittest.TestCase):
    def check(self, prime, five):
        """One answer to the five, and of the right class."""
        told = oval(prime, five)
        with self.subTest(prime=prime, five=five):
            if threes_in_line(prime, five):
                self.check_in_line(prime, five, told)
            else:
                self.check_oval(prime, five, told)
            self.assertIs(told.shows(prime, five), True)
        return told

    def check_in_line(self, prime, five, told):
        self.assertIs(type(told), InLine)
        self.assertIs(type(told.three), list)
        self.assertEqual([type(count) for count in told.three], [int, int, int])
        self.assertIn(told.three, threes_in_line(prime, five))

    def check_oval(self, prime, five, told):
        self.assertIs(type(told), Oval)
        self.assertIs(type(told.form), tuple)
        self.assertEqual([type(number) for number in told.form], [int] * 6)
        self.assertTrue(all(0 <= number < prime for number in told.form))
        self.assertEqual([number for number in told.form if number][:1], [1])
        self.assertEqual([left(prime, told.form, point) for point in five], [0] * 5)

    def test_all_fives_by_three(self):
        for five in combinations(triples(3), 5):
            self.assertIs(type(self.check(3, list(five))), InLine)

    def test_all_ovals_by_five(self):
        # Of the forms by a prime, its fifth power less its square are those of ovals, with one point more
        # than the prime says: by 5 with six points, of which six fives are picked.
        count = {}
        for five in arcs(5):
            form = oval(5, five).form
            self.assertEqual([left(5, form, point) for point in five], [0] * 5, five)
            count[form] = count.get(form, 0) + 1
        self.assertEqual(len(count), 5**5 - 5**2)
        self.assertEqual(set(count.values()), {6})

    def test_no_other_form(self):
        for prime, fives in ((5, arcs(5)[::311]), (7, some_arcs(7, 20))):
            for five in fives:
                with self.subTest(prime=prime, five=five):
                    fit = [form for form in forms(prime) if not any(left(prime, form, point) for point in five)]
                    self.assertEqual(fit, [oval(prime, five).form])

    def test_in_line_by_five_and_seven(self):
        for prime, step in ((5, 97), (7, 2503)):
            for count, five in enumerate(combinations(triples(prime), 5)):
                if count % step == 0:
                    self.check(prime, list(five))

    def test_drawn_fives_by_larger_primes(self):
        for prime in LARGER:
            told = [type(self.check(prime, five)) for five in some_fives(prime, 40)]
            self.assertIn(Oval, told)

    def test_by_hand(self):
        corners = [(1, 0, 0), (0, 1, 0), (0, 0, 1)]
        # Only x y, x z and y z count, d + e + f and 2 d + 3 e + 6 f leave 0: by 997 a third is 665.
        self.assertEqual(oval(7, corners + [(1, 1, 1), (1, 2, 3)]).form, (0, 0, 0, 1, 1, 5))
        self.assertEqual(oval(997, corners + [(1, 1, 1), (1, 2, 3)]).form, (0, 0, 0, 1, 331, 665))
        self.assertEqual(oval(3, corners + [(1, 1, 0), (1, 2, 1)]).three, [0, 1, 3])
        # y y = x z, at 1, t, t t.
        for prime in (5, 11, 997):
            five = [(0, 0, 1)] + [(1, t, t * t % prime) for t in (0, 1, 2, prime - 1)]
            last = prime - 1
            self.assertEqual(oval(prime, five).form, (0, 1, 0, 0, last, 0))

    def test_same_form_in_every_turn(self):
        for prime, many in ((5, 3), (7, 3), (31, 2), (997, 4)):
            for five in some_arcs(prime, many):
                form = oval(prime, five).form
                for turn in permutations(five):
                    self.assertEqual(self.check(prime, list(turn)).form, form)


class InLines(unittest.TestCase):
    def check(self, prime, five):
        told = oval(prime, five)
        with self.subTest(prime=prime, five=five):
            self.assertIs(type(told), InLine)
            self.assertIs(type(told.three), list)
            self.assertIn(told.three, threes_in_line(prime, five))
            self.assertIs(told.shows(prime, five), True)
        return told

    def test_just_one_three(self):
        # Each three in its turn is the only one, so no other can be told.
        for prime in (7, 31, 997):
            for four in [five[:4] for five in some_arcs(prime, 6)]:
                one, other, third, fourth = four
                line = [point for point in points_along(prime, two_points(prime, one, other)) if point not in four]
                for extra in line:
                    five = [one, other, extra, third, fourth]
                    if len(threes_in_line(prime, five)) == 1:
                        self.check_every_place(prime, five)
                        break
                else:
                    self.fail((prime, four))

    def check_every_place(self, prime, five):
        for turn in permutations(range(5)):
            turned = [five[at] for at in turn]
            told = self.check(prime, turned)
            self.assertEqual(told.three, sorted(turn.index(at) for at in (0, 1, 2)))

    def test_four_and_five_on_one_line(self):
        for prime in (3, 5, 7, 31, 997):
            for line in some_triples(prime, 4):
                along = points_along(prime, line)
                off = [point for point in some_triples(prime, 9) if point not in along][0]
                for turn in permutations([*along[:3], along[-1], off]):
                    self.assertEqual(len(threes_in_line(prime, list(turn))), 4)
                    self.check(prime, list(turn))
                if prime > 3:
                    for turn in permutations([*along[:4], along[-1]]):
                        self.check(prime, list(turn))

    def test_two_threes(self):
        for prime in (3, 5, 997):
            five = [(1, 0, 0), (0, 1, 0), (1, 1, 0), (0, 0, 1), (1, 0, 1)]
            self.assertEqual(threes_in_line(prime, five), [[0, 1, 2], [0, 3, 4]])
            for turn in permutations(five):
                self.check(prime, list(turn))


def two_points(prime, one, other):
    """The line of two points, found by going through those that the first is on."""
    return next(line for line in points_along(prime, one)
                if sum(x * y for x, y in zip(line, other)) % prime == 0)


class Shows(unittest.TestCase):
    def test_every_form_by_five(self):
        fives = arcs(5)[::5003] + [list(five) for five in list(combinations(triples(5), 5))[::80021]]
        self.assertEqual(sum(1 for five in fives if threes_in_line(5, five)), 3)
        for five in fives:
            right = None if threes_in_line(5, five) else oval(5, five).form
            for form in forms(5):
                self.assertIs(Oval(form).shows(5, five), form == right, (five, form))

    def test_every_three(self):
        counts = [[one, other, third] for one in range(-3, 8) for other in range(-3, 8) for third in range(-3, 8)]
        for prime, fives in ((3, [list(five) for five in combinations(triples(3), 5)][::97]),
                             (5, [list(five) for five in combinations(triples(5), 5)][::17011]),
                             (997, [[(0, 0, 1), (0, 1, 0), (1, 5, 7), (0, 1, 2), (1, 5, 8)]])):
            for five in fives:
                right = threes_in_line(prime, five)
                for three in counts:
                    self.assertIs(InLine(three).shows(prime, five), three in right, (prime, five, three))

    def test_never_both(self):
        for prime in (5, 7, 31, 997):
            for five in some_fives(prime, 60):
                with self.subTest(prime=prime, five=five):
                    told = oval(prime, five)
                    threes = [list(three) for three in combinations(range(5), 3)]
                    shown = [three for three in threes if InLine(three).shows(prime, five)]
                    self.assertEqual(shown, threes_in_line(prime, five))
                    self.assertEqual(type(told), InLine if shown else Oval)

    def check_oval(self, prime, five, form, right):
        with self.subTest(prime=prime, five=five, form=form):
            self.assertIs(Oval(form).shows(prime, five), right)

    def test_form_by_hand(self):
        for prime in (5, 7, 31, 997):
            for five in some_arcs(prime, 5):
                form = oval(prime, five).form
                self.check_oval(prime, five, form, True)
                self.check_oval(prime, five, form[::-1], form[::-1] == form)
                for at in range(6):
                    last = form[:at] + ((form[at] + 1) % prime,) + form[at + 1:]
                    self.check_oval(prime, five, last, False)
                    self.check_oval(prime, five, form[:at] + (form[at] + prime,) + form[at + 1:], False)
                    self.check_oval(prime, five, form[:at] + (form[at] - prime,) + form[at + 1:], False)
                    self.check_oval(prime, five, form[at:] + form[:at], form[at:] + form[:at] == form)
                    for other in range(at):
                        turned = list(form)
                        turned[at], turned[other] = turned[other], turned[at]
                        self.check_oval(prime, five, tuple(turned), tuple(turned) == form)

    def test_form_times_a_number(self):
        for prime in (7, 997):
            for five in some_arcs(prime, 3):
                form = oval(prime, five).form
                for times in (0, 2, prime - 1):
                    self.check_oval(prime, five, tuple(times * number % prime for number in form), False)

    def test_form_of_a_larger_prime(self):
        for prime, larger in ((5, 7), (7, 997), (31, 101)):
            five = some_arcs(prime, 1)[0]
            for form in ((1, larger - 1, 0, 0, 0, 0), (0, 1, 0, 0, larger - 1, 0), (0, 0, 0, 0, 1, prime)):
                self.check_oval(prime, five, form, False)

    def test_two_lines_through_the_five(self):
        for prime in (3, 5, 7, 31, 997):
            for line in some_triples(prime, 4):
                for other in some_triples(prime, 4):
                    if line != other:
                        that = points_along(prime, other)
                        between = set(points_along(prime, line)) & set(that)
                        this = [point for point in points_along(prime, line) if point not in between]
                        that = [point for point in that if point not in between]
                        five = [this[0], that[0], this[1], that[1], this[-1]]
                        form = two_lines(prime, line, other)
                        self.assertEqual([left(prime, form, point) for point in five], [0] * 5)
                        self.check_oval(prime, five, form, False)
                        self.assertIs(InLine([0, 2, 4]).shows(prime, five), True)

    def check_in_line(self, prime, five, three, right):
        with self.subTest(prime=prime, five=five, three=three):
            self.assertIs(InLine(three).shows(prime, five), right)

    def test_three_by_hand(self):
        for prime in (3, 7, 997):
            # Just the points 1, 2 and 4 are on one line.
            five = [(0, 0, 1), (1, 0, 0), (1, 1, 0), (1, 1, 1), (0, 1, 0)]
            threes = threes_in_line(prime, five)
            self.assertIn([1, 2, 4], threes)
            self.assertNotIn([0, 1, 2], threes)
            self.check_in_line(prime, five, [1, 2, 4], True)
            for turn in permutations([1, 2, 4]):
                self.check_in_line(prime, five, list(turn), turn == (1, 2, 4))
            for three in ([1, 2], [1], [], [1, 2, 4, 4], [1, 2, 2], [1, 1, 2], [4, 4, 4], [1, 2, 3, 4], [0, 1, 2, 4],
                          [2, 4], [1, 4], [1, 2, 5], [1, 2, 9], [1, 2, -1], [-1, 1, 2], [-4, 2, 4], [-4, -3, -1],
                          [1, 2, 10**200], [-10**200, 2, 4], [0, 1, 2], [1, 2, 3], [2, 3, 4]):
                self.check_in_line(prime, five, three, three in threes)

    def test_no_three_of_an_oval(self):
        for prime in (7, 997):
            for five in some_arcs(prime, 3):
                for three in combinations(range(5), 3):
                    self.check_in_line(prime, five, list(three), False)

    def test_of_other_fives(self):
        for prime in (5, 7, 997):
            fives = some_fives(prime, 12) + some_arcs(prime, 4)
            told = [oval(prime, five) for five in fives]
            for answer in told:
                for five in fives:
                    with self.subTest(prime=prime, five=five, answer=vars(answer)):
                        if isinstance(answer, InLine):
                            right = answer.three in threes_in_line(prime, five)
                        else:
                            on_it = not any(left(prime, answer.form, point) for point in five)
                            right = on_it and not threes_in_line(prime, five)
                        self.assertIs(answer.shows(prime, five), right)

    def test_of_another_prime(self):
        corners = [(1, 0, 0), (0, 1, 0), (0, 0, 1), (1, 1, 1), (1, 2, 3)]
        form = oval(7, corners).form
        self.check_oval(7, corners, form, True)
        self.check_oval(11, corners, form, False)
        # By 7 (1, 2, 3), (1, 1, 1) and (1, 3, 5) are on one line, and by every prime; (1, 4, 0) only by 7.
        five = [(1, 0, 0), (1, 1, 1), (1, 2, 3), (1, 4, 0), (0, 1, 0)]
        self.check_in_line(7, five, [1, 2, 3], True)
        self.check_in_line(11, five, [1, 2, 3], False)


if __name__ == "__main__":
    unittest.main()
