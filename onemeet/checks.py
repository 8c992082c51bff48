"""What is taken as a prime, as a point and as a line; all else is refused."""

from onemeet.errors import BadLine, BadPoint, BadPrime

FIRST_PRIME = 3
LAST_PRIME = 997
# 32 times 32 is beyond the last prime, so each composite has a divisor below 32.
DIVISORS_END = 32


def is_whole(value):
    """Whether it is a whole number."""
    # Python counts True and False among its integers, the document does not.
    return isinstance(value, int) and not isinstance(value, bool)


def is_prime(value):
    """Whether it is a prime from 3 to 997."""
    if not is_whole(value) or value < FIRST_PRIME or value > LAST_PRIME:
        return False
    return all([value % divisor != 0 for divisor in range(2, DIVISORS_END) if divisor < value])


def is_triple(prime, value):
    """Whether it is a point by the prime, and so a line too: both are the same triples."""
    if not isinstance(value, tuple) or len(value) != 3:
        return False
    if not all([is_whole(member) and 0 <= member < prime for member in value]):
        return False
    # The slice is empty, not [1], where all members are 0.
    return [member for member in value if member != 0][:1] == [1]


def check_prime(value):
    """Refuse what is no prime from 3 to 997."""
    if not is_prime(value):
        raise BadPrime("a prime from 3 to 997 is asked for")


def check_point(prime, value):
    """Refuse what is no point by the prime."""
    if not is_triple(prime, value):
        raise BadPoint("a point is asked for: a triple below the prime, its first member other than 0 being 1")


def check_line(prime, value):
    """Refuse what is no line by the prime."""
    if not is_triple(prime, value):
        raise BadLine("a line is asked for: a triple below the prime, its first member other than 0 being 1")
