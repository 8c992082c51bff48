"""Points and lines by a prime: what is on what, the line of two points, the point of two lines."""

from onemeet.checks import check_line, check_point, check_prime
from onemeet.errors import Alike


def on(prime, point, line):
    """Whether the point is on the line."""
    check_prime(prime)
    check_point(prime, point)
    check_line(prime, line)
    return sum([at * by for at, by in zip(point, line)]) % prime == 0


def join(prime, one, other):
    """The line that both points are on."""
    check_prime(prime)
    check_point(prime, one)
    check_point(prime, other)
    return _across(prime, one, other)


def meet(prime, one, other):
    """The point that is on both lines."""
    check_prime(prime)
    check_line(prime, one)
    check_line(prime, other)
    return _across(prime, one, other)


def _across(prime, one, other):
    """The one triple that leaves 0 with each of two unlike triples."""
    # Points and lines are the same triples, so that one rule serves join and meet.
    if one == other:
        raise Alike("two unlike ones are asked for")
    a, b, c = one
    d, e, f = other
    return _scaled(prime, [b * f - c * e, c * d - a * f, a * e - b * d])


def _scaled(prime, numbers):
    """The same numbers by the prime, all times one number, so that the first other than 0 is 1."""
    rests = [number % prime for number in numbers]
    first = [rest for rest in rests if rest != 0][0]
    times = _inverse(prime, first)
    return tuple([rest * times % prime for rest in rests])


def _inverse(prime, number):
    """The number that leaves 1 by the prime, times the given one (from 1 to one less than the prime)."""
    times = 1
    left = number
    # prime == many * left + rest, so left times -many leaves rest, which is smaller than left
    # and, the prime having no divisor, not 0: the steps end at 1.
    while left != 1:
        times = times * -(prime // left) % prime
        left = prime % left
    return times
