import math
import random
import unittest

from helper import BYS, product, rest, some_monic, some_numbers
from nextbyrule.wholes import joined, nearest, prime_above, shared_divisor, whole_greatest


class WholeGreatestTest(unittest.TestCase):
    def test_told_ones(self):
        self.assertEqual(whole_greatest((-1, 0, 1), (1, 2, 1)), (1, 1))
        self.assertEqual(whole_greatest((-1, 0, 1), (6, 6)), (1, 1))
        self.assertEqual(whole_greatest((-1, 0, 1), (5,)), (1,))
        self.assertEqual(whole_greatest((-1, 0, 1), ()), (-1, 0, 1))
        self.assertEqual(whole_greatest((1,), ()), (1,))
        self.assertEqual(whole_greatest((-1, 0, 1), (1, 0, 1)), (1,))
        self.assertEqual(whole_greatest((-1, 0, 1), (0, -3, 0, 3)), (-1, 0, 1))

    def test_of_products(self):
        # Two monic ones whose difference is 1 have no common part.
        chance = random.Random(57)
        for great in [3, 10 ** 6, 10 ** 60]:
            for degree in range(7):
                for more in range(1, 6):
                    shared = some_monic(chance, 0, degree, great)
                    one = some_monic(chance, 0, more, great)
                    other = (one[0] + 1,) + one[1:]
                    factor = some_numbers(chance, 0, 1, great)[0] or 1
                    told = whole_greatest(product(0, shared, one), product(0, (factor,), product(0, shared, other)))
                    self.assertEqual(told, shared)

    def test_a_common_part_by_the_first_primes_alone(self):
        first = prime_above(10 ** 6)
        second = prime_above(first)
        self.assertEqual((first, second), (1000003, 1000033))
        self.assertEqual(whole_greatest((0, 1), (first, 1)), (1,))
        self.assertEqual(whole_greatest((0, 1), (first * second, 1)), (1,))
        self.assertEqual(whole_greatest((0, 5, 1), (0, first * second + 5, 1)), (0, 1))

    def test_a_common_part_that_is_longer_by_the_second_prime(self):
        shared = (10 ** 20 + 7, -(10 ** 30), 1)
        for prime in [1000003, 1000033, 1000003 * 1000033]:
            one, other = product(0, shared, (0, 1)), product(0, shared, (prime, 1))
            self.assertEqual(whole_greatest(one, other), shared)

    def test_numbers_at_the_edges_of_the_first_primes(self):
        for number in [500001, 500002, 1000002, 1000003, 1000004, 1000003 * 1000033 // 2, 1000003 * 1000033]:
            for signed in [number, -number]:
                for near in [-1, 0, 1]:
                    shared = (signed + near, 1)
                    self.assertEqual(whole_greatest(product(0, shared, (1, 1)), product(0, shared, (3, 2))), shared)


    def test_numbers_that_some_primes_leave_as_they_were(self):
        # By each of the first primes the number looks like 5.
        primes = [1000003, 1000033, 1000037, 1000039]
        for count in range(len(primes) + 1):
            number = 5 + math.prod(primes[:count])
            for signed in [number, -number]:
                shared = (signed, 1, 1)
                one, other = product(0, shared, (1, 1)), product(0, shared, (3, 2))
                self.assertEqual(whole_greatest(one, other), shared)

    def test_by_whatever_by(self):
        chance = random.Random(58)
        for by in BYS:
            for degree in range(6):
                shared = some_monic(chance, by, degree)
                one = some_monic(chance, by, 4)
                other = (rest(by, one[0] + 1),) + one[1:]
                told = shared_divisor(by, product(by, shared, one), product(by, shared, other))
                self.assertEqual(told, shared)
                self.assertEqual(shared_divisor(by, shared, ()), shared)
                self.assertEqual(shared_divisor(by, shared, (1,)), (1,))


class JoinedTest(unittest.TestCase):
    def test_nearest(self):
        self.assertEqual([nearest(7, number) for number in range(-4, 9)], [3, -3, -2, -1, 0, 1, 2, 3, -3, -2, -1, 0, 1])

    def test_all_rests(self):
        for one, other in [(3, 5), (15, 7), (1, 11)]:
            for number in range(-(one * other // 2), one * other // 2 + 1):
                self.assertEqual(joined(one, nearest(one, number), other, number % other), number)


if __name__ == "__main__":
    unittest.main()
