"""Points and lines by a prime: what is on what, the line of two points, the point of two lines."""

from onemeet.checks import check_line, check_point, check_prime, check_unlike
from onemeet.reckoning import across, crossed


def on(prime, point, line):
    """Whether the point is on the line."""
    check_prime(prime)
    check_point(prime, point)
    check_line(prime, line)
    return crossed(prime, point, line) == 0


def join(prime, one, other):
    """The line that both points are on."""
    check_prime(prime)
    check_point(prime, one)
    check_point(prime, other)
    check_unlike([one, other])
    return across(prime, one, other)


def meet(prime, one, other):
    """The point that is on both lines."""
    check_prime(prime)
    check_line(prime, one)
    check_line(prime, other)
    check_unlike([one, other])
    return across(prime, one, other)
