"""What the tests hand in, made without the program's own functions."""

from itertools import product

from onemeet.planes import join, meet, on

PRIMES = [n for n in range(3, 998) if all(n % d for d in range(2, n))]
PLANES = [on, join, meet]


class Unhashable:
    """Says that it is alike to everything, and has neither an order nor a hash."""

    __hash__ = None

    def __eq__(self, other):
        return True


# 341, 561, 645, 703 and 91 pass power tests by one base or another; 961 is the square of 31.
NO_PRIMES = [
    2, 1, 0, -1, -3, -7, -997, 4, 6, 9, 15, 25, 49, 91, 341, 561, 645, 703, 899, 961, 989, 993, 996, 998, 999, 1000,
    1001, 1009, 1013, 10007, 10**200 + 7, True, False, "", "7", "seven", b"7", None, [], [7], (), (7,), (7, 7, 7),
    {}, {7: 7}, set(), {7}, range(7), 7j, int, on, object(), Unhashable(),
]


def triples(prime):
    """All points, in the order of tuples, by the words of promise 1."""
    return [row for row in product(range(prime), repeat=3) if any(row) and next(x for x in row if x) == 1]


def edge_triples(prime):
    """The first and the last of each kind of point: (0, 0, 1), (0, 1, z) and (1, y, z)."""
    return [(0, 0, 1), (0, 1, 0), (0, 1, prime - 1), (1, 0, 0), (1, 0, prime - 1), (1, prime - 1, 0),
            (1, prime - 1, prime - 1)]


def some_triples(prime, many):
    """That many steps over the points, always the same ones."""
    told = []
    state = 12345
    for step in range(many):
        state = (state * 1103515245 + 12345) % 2**31
        y, z = state // 7 % prime, state // 7 // prime % prime
        told.append((0, 1, z) if step % 9 == 8 else (1, y, z))
    return list(dict.fromkeys(told + edge_triples(prime)))


def no_triples(prime):
    """What is neither a point nor a line by the prime."""
    last = prime - 1
    shapes = [[1, 0, 0], [0, 0, 1], (), (1,), (1, 0), (0, 1), (1, 0, 0, 0), (0, 0, 0, 1), (0, 1, 0, 1, 0)]
    members = [(1, bad, 0) for bad in ("0", "", None, b"0", [0], [], (0,), {}, {0}, 0j, object(), Unhashable(), int)]
    members += [("1", 0, 0), (None, 0, 1), (0, 0, "1"), (0, 1, None), ([1], 0, 0)]
    truths = [(True, 0, 0), (1, False, 0), (1, 0, False), (1, True, 0), (0, 0, True), (0, False, 1), (False, 0, 1)]
    below = [(1, -1, 0), (1, 0, -1), (-1, 0, 0), (0, -1, 0), (0, 0, -1), (0, 1, -last), (1, 1, -10**200)]
    beyond = [(1, prime, 0), (1, 0, prime), (0, 1, prime), (prime, 1, 0), (0, prime, 1), (prime + 1, 0, 0),
              (0, prime + 1, 0), (0, 0, prime + 1), (1, 0, prime + 1), (1, 10**200, 0)]
    unscaled = [(0, 0, 0), (last, 0, 0), (last, 1, 1), (0, last, 0), (0, last, 1), (0, 0, last), (2, 0, 0), (2, 1, 0),
                (0, 2, 1), (0, 0, 2)]
    others = ["", "100", "abc", b"\x01\x00\x00", None, True, False, 0, 1, prime, {}, {1: 1, 0: 0, 2: 0}, {0, 1, 2},
              frozenset([0, 1, 2]), range(3), 1j, int, on, object(), Unhashable()]
    return shapes + members + truths + below + beyond + unscaled + others


def crossed(prime, first, second):
    """What a point and a line leave, by the words of promise 1."""
    (x, y, z), (a, b, c) = first, second
    return (a * x + b * y + c * z) % prime


def refusal(function, *handed):
    """The class of the error that the call raises, or None."""
    try:
        function(*handed)
    except Exception as error:
        return type(error)
    return None
