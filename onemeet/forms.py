"""Forms by a prime, reckoned with what was checked before: what five points and what a line make of them."""

from itertools import combinations

from onemeet.reckoning import across, crossed, first_two, point_along, scaled


def left_at(prime, form, triple):
    """What the form leaves at three numbers, be they a point or not: 0 if a point is on it."""
    a, b, c, d, e, f = form
    x, y, z = triple
    return (a * x * x + b * y * y + c * z * z + d * x * y + e * x * z + f * y * z) % prime


def in_line(prime, one, other, third):
    """Whether three unlike points are on one line."""
    return crossed(prime, third, across(prime, one, other)) == 0


def three_in_line(prime, five):
    """The counts of the first three of five unlike points that are on one line: an empty list if none are."""
    for one, other, third in combinations(range(len(five)), 3):
        if in_line(prime, five[one], five[other], five[third]):
            return [one, other, third]
    return []


def form_of(prime, five):
    """The one form that five points are on, no three of them being on one line."""
    a, b, c, d, last = five
    one = _of_two_lines(across(prime, a, b), across(prime, c, d))
    other = _of_two_lines(across(prime, a, c), across(prime, b, d))
    at_one = left_at(prime, one, last)
    at_other = left_at(prime, other, last)
    # Both leave 0 at the first four points, and so does each mixture of them; this one does at the last, too.
    return scaled(prime, [at_other * here - at_one * there for here, there in zip(one, other)])


def rest_of(prime, form, line):
    """The rest of the line by the form, as promise 5 reckons it."""
    a, b, c = _along(prime, form, line)
    return (b * b - 4 * a * c) % prime


def points_of_both(prime, form, line):
    """All points that are on the form and on the line, in order."""
    a, b, c = _along(prime, form, line)
    numbers = [0] if a == 0 else []
    # The point of number n + 1 is the second one with the first added n times.
    numbers.extend([n + 1 for n in range(prime) if (a * n * n + b * n + c) % prime == 0])
    return [point_along(prime, line, number) for number in numbers]


def _of_two_lines(one, other):
    """The six numbers, not by the prime yet, of what leaves 0 just where one of two lines does."""
    a, b, c = one
    d, e, f = other
    return [a * d, b * e, c * f, a * e + b * d, a * f + c * d, b * f + c * e]


def _along(prime, form, line):
    """The numbers A, B and C of promise 5: n times the first point and the second leave A n n, B n and C."""
    first, second = first_two(prime, line)
    at_first = left_at(prime, form, first)
    at_second = left_at(prime, form, second)
    both = [one + other for one, other in zip(first, second)]
    return at_first, left_at(prime, form, both) - at_first - at_second, at_second
