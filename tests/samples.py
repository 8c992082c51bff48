"""What the tests hand in, and what they reckon by themselves, made without the program's own functions."""

from itertools import combinations, product

from onemeet.numbering import number_of, number_on, point_by, point_on
from onemeet.ovals import oval, shared
from onemeet.planes import join, meet, on

PRIMES = [n for n in range(3, 998) if all(n % d for d in range(2, n))]
SOME_PRIMES = [3, 5, 7, 31, 997]
PLANES = [on, join, meet]
LATER = [point_by, number_of, point_on, number_on, oval, shared]


class Unhashable:
    """Says that it is alike to everything, and has neither an order nor a hash."""

    __hash__ = None

    def __eq__(self, other):
        return True


# 341, 561, 645, 703 and 91 pass power tests by one base or another; 961 is the square of 31.
NO_PRIMES = [
    2, 1, 0, -1, -3, -7, -997, 4, 6, 9, 15, 25, 49, 91, 341, 561, 645, 703, 899, 961, 989, 993, 996, 998, 999, 1000,
    1001, 1009, 1013, 10007, 10**200 + 7, True, False, "", "7", "seven", b"7", None, [], [7], (), (7,), (7, 7, 7),
    {}, {7: 7}, set(), {7}, range(7), 7j, int, on, object(), Unhashable(),
]


def triples(prime):
    """All points, in the order of tuples, by the words of promise 1."""
    return [row for row in product(range(prime), repeat=3) if any(row) and next(x for x in row if x) == 1]


def edge_triples(prime):
    """The first and the last of each kind of point: (0, 0, 1), (0, 1, z) and (1, y, z)."""
    return [(0, 0, 1), (0, 1, 0), (0, 1, prime - 1), (1, 0, 0), (1, 0, prime - 1), (1, prime - 1, 0),
            (1, prime - 1, prime - 1)]


def some_triples(prime, many):
    """That many steps over the points, always the same ones."""
    told = []
    state = 12345
    for step in range(many):
        state = (state * 1103515245 + 12345) % 2**31
        y, z = state // 7 % prime, state // 7 // prime % prime
        told.append((0, 1, z) if step % 9 == 8 else (1, y, z))
    return list(dict.fromkeys(told + edge_triples(prime)))


def no_triples(prime):
    """What is neither a point nor a line by the prime."""
    last = prime - 1
    shapes = [[1, 0, 0], [0, 0, 1], (), (1,), (1, 0), (0, 1), (1, 0, 0, 0), (0, 0, 0, 1), (0, 1, 0, 1, 0)]
    members = [(1, bad, 0) for bad in ("0", "", None, b"0", [0], [], (0,), {}, {0}, 0j, object(), Unhashable(), int)]
    members += [("1", 0, 0), (None, 0, 1), (0, 0, "1"), (0, 1, None), ([1], 0, 0)]
    truths = [(True, 0, 0), (1, False, 0), (1, 0, False), (1, True, 0), (0, 0, True), (0, False, 1), (False, 0, 1)]
    below = [(1, -1, 0), (1, 0, -1), (-1, 0, 0), (0, -1, 0), (0, 0, -1), (0, 1, -last), (1, 1, -10**200)]
    beyond = [(1, prime, 0), (1, 0, prime), (0, 1, prime), (prime, 1, 0), (0, prime, 1), (prime + 1, 0, 0),
              (0, prime + 1, 0), (0, 0, prime + 1), (1, 0, prime + 1), (1, 10**200, 0)]
    unscaled = [(0, 0, 0), (last, 0, 0), (last, 1, 1), (0, last, 0), (0, last, 1), (0, 0, last), (2, 0, 0), (2, 1, 0),
                (0, 2, 1), (0, 0, 2)]
    others = ["", "100", "abc", b"\x01\x00\x00", None, True, False, 0, 1, prime, {}, {1: 1, 0: 0, 2: 0}, {0, 1, 2},
              frozenset([0, 1, 2]), range(3), 1j, int, on, object(), Unhashable()]
    return shapes + members + truths + below + beyond + unscaled + others


def no_forms(prime):
    """What is no form by the prime."""
    last = prime - 1
    shapes = [[1, 0, 0, 0, 0, 0], [0, 0, 0, 0, 0, 1], (), (1,), (1, 0, 0), (1, 0, 0, 0, 0), (0, 0, 0, 0, 1),
              (1, 0, 0, 0, 0, 0, 0), (0, 0, 0, 0, 0, 0, 1), ((1, 0, 0), (0, 1, 0))]
    members = [(1, bad, 0, 0, 0, 0) for bad in ("0", "", None, b"0", [0], [], (0,), {}, 0j, Unhashable(), int)]
    members += [("1", 0, 0, 0, 0, 0), (None, 0, 0, 0, 0, 1), (0, 0, 0, 0, 0, "1"), (0, 0, 0, 0, 1, None)]
    ones = [tuple(int(at == place) for at in range(6)) for place in range(6)]
    replaced = [row[:place] + (bad,) + row[place + 1:] for place, row in enumerate(ones)
                for bad in (True, -1, -last, prime, prime + 1)]
    replaced += [(1, 0, 0, 0, 0)[:place] + (bad,) + (1, 0, 0, 0, 0)[place:]
                 for place in range(1, 6) for bad in (False, True, -1, prime, 10**200)]
    unscaled = [(0, 0, 0, 0, 0, 0)] + [tuple(first * member for member in row) for row in ones for first in (2, last)]
    unscaled += [(2, 1, 0, 0, 0, 0), (0, 2, 1, 0, 0, 0), (0, 0, last, 1, 1, 1), (0, 0, 0, 0, last, 1)]
    others = ["", "100000", b"\x01\x00\x00\x00\x00\x00", None, True, False, 0, 1, prime, {}, set(), range(6),
              dict.fromkeys(range(6)), frozenset(range(6)), 1j, int, on, object(), Unhashable()]
    return shapes + members + replaced + unscaled + others


def no_fives(prime):
    """What is no list of five points by the prime."""
    five = five_by(prime)
    shapes = [tuple(five), five[:4], five + [(1, 1, 0)], [], five[:1], set(five), frozenset(five), dict.fromkeys(five),
              iter(five), {0: five}, [five], (), tuple(five[:4])]
    members = [five[:place] + [bad] + five[place + 1:] for bad in no_triples(prime) for place in (0, 2, 4)]
    others = ["", "01234", b"01234", None, True, False, 0, 5, prime, (0, 0, 1), {}, range(5), 1j, int, on, object(),
              Unhashable()]
    return shapes + members + others


def no_numbers(last):
    """What is no number from 0 to the last one."""
    return [-1, -2, -last, -10**200, last + 1, last + 2, 2 * last + 1, 10**200, True, False, "", "0", "1", b"0", None,
            [], [0], (), (0,), {}, {0: 0}, set(), {0}, range(1), 1j, int, on, object(), Unhashable()]


def five_by(prime):
    """Five unlike points, which every prime has."""
    return [(1, 0, 0), (0, 1, 0), (0, 0, 1), (1, 1, 1), (1, 2, prime - 1)]


def taken_by(prime):
    """For each later door what it takes by the prime, without the prime."""
    return {point_by: [1], number_of: [(1, 0, 0)], point_on: [(0, 1, 0), 1], number_on: [(0, 1, 0), (1, 0, 0)],
            oval: [five_by(prime)], shared: [(1, 0, 0, 0, 0, 1), (0, 1, 0)]}


def drawn(many, below, start=0):
    """That many numbers from 0 to one less than another, always the same ones from the same start."""
    told = []
    state = 54321 + start
    for _ in range(many):
        state = (state * 6364136223846793005 + 1442695040888963407) % 2**64
        told.append((state >> 33) % below)
    return told


def points_along(prime, line):
    """All points that are on the line, in order, reckoned from the line's three numbers."""
    a, b, c = line
    if c:
        by = pow(c, -1, prime)
        found = [(0, 1, -b * by % prime)] + [(1, y, -(a + b * y) * by % prime) for y in range(prime)]
    elif b:
        found = [(0, 0, 1)] + [(1, -a * pow(b, -1, prime) % prime, z) for z in range(prime)]
    else:
        found = [(0, 0, 1)] + [(0, 1, z) for z in range(prime)]
    assert all(crossed(prime, point, line) == 0 for point in found)
    assert found == sorted(set(found)) and len(found) == prime + 1
    return found


def crossed(prime, first, second):
    """What a point and a line leave, by the words of promise 1."""
    (x, y, z), (a, b, c) = first, second
    return (a * x + b * y + c * z) % prime


def lined_up(prime, one, other, third):
    """Whether three points are on one line: the six products of their numbers, three of them less, leave 0."""
    (a, b, c), (d, e, f), (g, h, i) = one, other, third
    return (a * e * i + b * f * g + c * d * h - c * e * g - b * d * i - a * f * h) % prime == 0


def threes_in_line(prime, five):
    """The counts, rising, of all threes of the five points that are on one line."""
    return [list(counts) for counts in combinations(range(5), 3)
            if lined_up(prime, *[five[count] for count in counts])]


def scaled(prime, numbers):
    """The same numbers by the prime, the first that isn't 0 being 1."""
    first = next(number for number in numbers if number % prime)
    return tuple(number * pow(first, -1, prime) % prime for number in numbers)


def forms(prime):
    """All forms, by the words of promise 4."""
    return [row for row in product(range(prime), repeat=6) if any(row) and next(x for x in row if x) == 1]


def two_lines(prime, one, other):
    """The form of the points that are on the one line or the other."""
    (a, b, c), (d, e, f) = one, other
    return scaled(prime, (a * d, b * e, c * f, a * e + b * d, a * f + c * d, b * f + c * e))


def left(prime, form, numbers):
    """What the form leaves, by the words of promise 4."""
    (a, b, c, d, e, f), (x, y, z) = form, numbers
    return (a * x * x + b * y * y + c * z * z + d * x * y + e * x * z + f * y * z) % prime


def rest(prime, form, line):
    """The rest of the line by the form, by the words of promise 5."""
    first, second = points_along(prime, line)[:2]
    at_first, at_second = left(prime, form, first), left(prime, form, second)
    between = left(prime, form, [x + y for x, y in zip(first, second)]) - at_first - at_second
    return (between * between - 4 * at_first * at_second) % prime


def refusal(function, *handed):
    """The class of the error that the call raises, or None."""
    try:
        function(*handed)
    except Exception as error:
        return type(error)
    return None
