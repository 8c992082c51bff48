"""What is taken as a prime, a point, a line, a form, a number or five points; all else is refused."""

from itertools import combinations

from onemeet.errors import Alike, BadForm, BadLine, BadNumber, BadPoint, BadPrime

FIRST_PRIME = 3
LAST_PRIME = 997
# 32 times 32 is beyond the last prime, so each composite has a divisor below 32.
DIVISORS_END = 32
NUMBERS_OF_POINT = 3
NUMBERS_OF_FORM = 6
POINTS_OF_OVAL = 5


def is_whole(value):
    """Whether it is a whole number."""
    # Python counts True and False among its integers, the document does not.
    return isinstance(value, int) and not isinstance(value, bool)


def is_prime(value):
    """Whether it is a prime from 3 to 997."""
    if not is_whole(value) or value < FIRST_PRIME or value > LAST_PRIME:
        return False
    return all([value % divisor != 0 for divisor in range(2, DIVISORS_END) if divisor < value])


def is_scaled(prime, value, many):
    """Whether it is a tuple of that many whole numbers below the prime, the first other than 0 being 1."""
    if not isinstance(value, tuple) or len(value) != many:
        return False
    if not all([is_whole(member) and 0 <= member < prime for member in value]):
        return False
    # The slice is empty, not [1], where all members are 0.
    return [member for member in value if member != 0][:1] == [1]


def is_triple(prime, value):
    """Whether it is a point by the prime, and so a line too: both are the same triples."""
    return is_scaled(prime, value, NUMBERS_OF_POINT)


def is_form(prime, value):
    """Whether it is a form by the prime."""
    return is_scaled(prime, value, NUMBERS_OF_FORM)


def check_prime(value):
    """Refuse what is no prime from 3 to 997."""
    if not is_prime(value):
        raise BadPrime("a prime from 3 to 997 is asked for")


def check_point(prime, value):
    """Refuse what is no point by the prime."""
    if not is_triple(prime, value):
        raise BadPoint("a point is asked for: a triple below the prime, its first member other than 0 being 1")


def check_line(prime, value):
    """Refuse what is no line by the prime."""
    if not is_triple(prime, value):
        raise BadLine("a line is asked for: a triple below the prime, its first member other than 0 being 1")


def check_form(prime, value):
    """Refuse what is no form by the prime."""
    if not is_form(prime, value):
        raise BadForm("a form is asked for: a tuple of six below the prime, its first member other than 0 being 1")


def check_number(value, last):
    """Refuse what is no whole number from 0 to the last one."""
    if not is_whole(value) or value < 0 or value > last:
        raise BadNumber("a number is asked for: a whole one from 0 to that of the last point")


def check_five(prime, value):
    """Refuse what is no list of five points by the prime."""
    if not isinstance(value, list) or len(value) != POINTS_OF_OVAL:
        raise BadPoint("a list of five points is asked for")
    for point in value:
        check_point(prime, point)


def check_unlike(rows):
    """Refuse a list of points, or of lines, two of which are alike."""
    if any([one == other for one, other in combinations(rows, 2)]):
        raise Alike("unlike ones are asked for, but two are alike")
