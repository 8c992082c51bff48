"""Reckoning by a prime with rows of numbers that were checked before: nothing is refused here."""


def inverse(prime, number):
    """The number that leaves 1 by the prime, times the given one (from 1 to one less than the prime)."""
    times = 1
    left = number
    # prime == many * left + rest, so left times -many leaves rest, which is smaller than left
    # and, the prime having no divisor, not 0: the steps end at 1.
    while left != 1:
        times = times * -(prime // left) % prime
        left = prime % left
    return times


def scaled(prime, numbers):
    """The same numbers by the prime, all times one number, so that the first other than 0 is 1."""
    rests = [number % prime for number in numbers]
    first = [rest for rest in rests if rest != 0][0]
    times = inverse(prime, first)
    return tuple([rest * times % prime for rest in rests])


def crossed(prime, point, line):
    """What a point and a line leave: 0 if the point is on the line."""
    return sum([at * by for at, by in zip(point, line)]) % prime


def across(prime, one, other):
    """The one triple that leaves 0 with each of two unlike triples."""
    # Points and lines are the same triples, so that one rule tells the line of points and the point of lines.
    a, b, c = one
    d, e, f = other
    return scaled(prime, [b * f - c * e, c * d - a * f, a * e - b * d])


def first_two(prime, line):
    """The first two points of the line, in the order of tuples."""
    a, b, c = line
    if c != 0:
        by = inverse(prime, c)
        return (0, 1, -b * by % prime), (1, 0, -a * by % prime)
    if b != 0:
        return (0, 0, 1), (1, -a * inverse(prime, b) % prime, 0)
    return (0, 0, 1), (0, 1, 0)


def point_along(prime, line, number):
    """The point of that number on the line, from 0 to the prime."""
    first, second = first_two(prime, line)
    # Where the first has its leading 1, the second has 0: all points but the first are the second
    # with the first added 0, 1, 2 .. times, and in the order of tuples they come just so.
    firsts, seconds = (1, 0) if number == 0 else (number - 1, 1)
    return tuple([(firsts * one + seconds * other) % prime for one, other in zip(first, second)])


def number_along(prime, line, point):
    """The number on the line of a point that is on it."""
    first, _ = first_two(prime, line)
    if point == first:
        return 0
    # How often the first was added to the second stands where the first has its leading 1.
    return point[first.index(1)] + 1
