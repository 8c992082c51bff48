"""Promise 1: what is taken, and what is told of it."""

import unittest

from onemeet.planes import join, meet, on
from samples import PRIMES, crossed, edge_triples, some_triples, triples


class Taken(unittest.TestCase):
    def test_how_many_primes(self):
        self.assertEqual((len(PRIMES), PRIMES[0], PRIMES[-1]), (167, 3, 997))

    def test_every_prime(self):
        for prime in PRIMES:
            with self.subTest(prime):
                self.assertIs(on(prime, (1, 0, prime - 1), (1, 0, 1)), True)
                self.assertIs(on(prime, (1, 0, prime - 1), (1, 0, 2)), False)
                self.assertEqual(join(prime, (1, 0, 0), (0, 1, prime - 1)), (0, 1, 1))
                self.assertEqual(meet(prime, (1, 0, 0), (0, 1, prime - 1)), (0, 1, 1))

    def test_edges_at_every_prime(self):
        for prime in PRIMES:
            edges = edge_triples(prime)
            for one in edges:
                for other in edges:
                    with self.subTest(prime=prime, one=one, other=other):
                        self.assertIs(on(prime, one, other), crossed(prime, one, other) == 0)
                        if one != other:
                            self.check_across(prime, one, other)

    def test_all_of_small_primes(self):
        for prime in (3, 5, 7):
            for one in triples(prime):
                for other in triples(prime):
                    with self.subTest(prime=prime, one=one, other=other):
                        self.assertIs(on(prime, one, other), crossed(prime, one, other) == 0)

    def check_across(self, prime, one, other):
        for function in (join, meet):
            told = function(prime, one, other)
            self.check_triple(prime, told)
            self.assertEqual((crossed(prime, one, told), crossed(prime, other, told)), (0, 0))

    def check_triple(self, prime, told):
        self.assertIs(type(told), tuple)
        self.assertEqual([type(member) for member in told], [int, int, int])
        self.assertTrue(all(0 <= member < prime for member in told))
        self.assertEqual([member for member in told if member][0], 1)


class Told(unittest.TestCase):
    def test_on_by_hand(self):
        # 1 * 1 + 2 * 1 + 3 * 6 = 21, which leaves 0 by 7, but 10 by 11.
        self.assertIs(on(7, (1, 2, 3), (1, 1, 6)), True)
        self.assertIs(on(11, (1, 2, 3), (1, 1, 6)), False)
        self.assertIs(on(997, (1, 1, 995), (1, 1, 1)), True)
        self.assertIs(on(997, (1, 1, 996), (1, 1, 1)), False)

    def test_join_and_meet_by_hand(self):
        for function in (join, meet):
            self.assertEqual(function(3, (1, 0, 0), (0, 0, 1)), (0, 1, 0))
            self.assertEqual(function(5, (1, 1, 1), (1, 2, 3)), (1, 3, 1))
            self.assertEqual(function(7, (1, 2, 3), (1, 3, 5)), (1, 5, 1))
            # 2 * 1 + 3 * 664 = 2 * 997.
            self.assertEqual(function(997, (1, 0, 0), (1, 2, 3)), (0, 1, 664))

    def test_new_each_time(self):
        for function in (join, meet):
            for prime in (3, 7, 997):
                # The three corners are told as one another.
                corners = [(1, 0, 0), (0, 1, 0), (0, 0, 1)]
                first = function(prime, corners[0], corners[1])
                second = function(prime, corners[0], corners[1])
                self.assertEqual(first, corners[2])
                self.assertEqual(second, corners[2])
                self.assertIsNot(first, second)
                self.assertIsNot(first, corners[2])

    def test_same_after_other_primes(self):
        for prime in (7, 997, 7, 11, 7):
            self.assertEqual(join(prime, (1, 1, 0), (1, 0, 1)), (1, prime - 1, prime - 1))
            self.assertEqual(meet(prime, (1, 1, 0), (1, 0, 1)), (1, prime - 1, prime - 1))

    def test_nothing_is_changed(self):
        for prime in (3, 7, 997):
            rows = some_triples(prime, 12)
            copy = [tuple(list(row)) for row in rows]
            for one in rows:
                for other in rows:
                    on(prime, one, other)
                    if one != other:
                        join(prime, one, other)
                        meet(prime, one, other)
            self.assertEqual(rows, copy)


if __name__ == "__main__":
    unittest.main()
