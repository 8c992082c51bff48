"""The numbers of points, from 0 on in the order of tuples: among all of the plane, and on a line."""

from onemeet.checks import check_line, check_number, check_point, check_prime
from onemeet.errors import NotOn
from onemeet.reckoning import crossed, number_along, point_along


def point_by(prime, number):
    """The point of that number among all points."""
    check_prime(prime)
    check_number(number, prime * prime + prime)
    if number > prime:
        y, z = divmod(number - prime - 1, prime)
        return (1, y, z)
    if number > 0:
        return (0, 1, number - 1)
    # A literal (0, 0, 1) would be the same tuple each time, but what is told is new.
    return tuple([0, 0, 1])


def number_of(prime, point):
    """The number of the point among all points."""
    check_prime(prime)
    check_point(prime, point)
    x, y, z = point
    if x == 1:
        return prime + 1 + prime * y + z
    if y == 1:
        return z + 1
    return 0


def point_on(prime, line, number):
    """The point of that number among the points of the line."""
    check_prime(prime)
    check_line(prime, line)
    check_number(number, prime)
    return point_along(prime, line, number)


def number_on(prime, line, point):
    """The number of the point among the points of the line."""
    check_prime(prime)
    check_line(prime, line)
    check_point(prime, point)
    if crossed(prime, point, line) != 0:
        raise NotOn("the point is not on the line")
    return number_along(prime, line, point)
