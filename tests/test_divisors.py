import copy
import math
import random
import unittest

from helper import (
    FIBONACCI, PRIMES, assert_refused, lengthened, some_monic, some_numbers, some_row, some_rows, step_by_step,
)
from nextbyrule.divisors import by_prime, divisor_of, undivided
from nextbyrule.errors import NoBy, TooFar
from nextbyrule.rows import is_row

# Starts and steps that are let in, and such as are not.
STARTS, STEPS = [0, 1, 2, 50, 99, 100], [1, 2, 9, 10]
NO_STARTS, NO_STEPS = [-1, -100, 101, 300, 10 ** 59], [0, -1, -10, 11, 100, 10 ** 59]


def many_times(chance, factor, length, great=30):
    """A row all places of which the factor divides."""
    starts = tuple(factor * number for number in some_numbers(chance, 0, length, great))
    return (0, tuple(some_numbers(chance, 0, length, great)), starts)


class DivisorTest(unittest.TestCase):
    def check(self, row):
        told = divisor_of(row)
        self.assertIs(type(told), int)
        self.assertGreaterEqual(told, 0)
        self.assertEqual(told, math.gcd(*step_by_step(row, 40)))
        return told

    def test_told_ones(self):
        self.assertEqual(divisor_of(FIBONACCI), 1)
        self.assertEqual(divisor_of((0, (1, 1), (0, 6))), 6)
        self.assertEqual(divisor_of((0, (1, 1), (4, 6))), 2)
        self.assertEqual(divisor_of((0, (1, 1), (6, 0))), 6)
        self.assertEqual(divisor_of((0, (3,), (-5,))), 5)
        self.assertEqual(divisor_of((0, (0,), (-5,))), 5)
        self.assertEqual(divisor_of((0, (1, 1), (-4, -6))), 2)

    def test_rows_of_noughts(self):
        self.assertEqual(divisor_of((0, (), ())), 0)
        for length in range(1, 13):
            self.assertEqual(divisor_of((0, (5,) * length, (0,) * length)), 0)

    def test_one_start_holds_it_back(self):
        for length in range(1, 13):
            for at in range(length):
                starts = [12] * length
                starts[at] = 8
                self.assertEqual(self.check((0, (1,) * length, tuple(starts))), 4 if length > 1 else 8)
                starts = [0] * length
                starts[at] = -7
                self.assertEqual(self.check((0, (2,) * length, tuple(starts))), 7)

    def test_rules_with_noughts(self):
        # Where no later place has what a start holds back, the start alone does.
        self.assertEqual(self.check((0, (2, 0), (3, 2))), 1)
        self.assertEqual(self.check((0, (0, 0), (9, 6))), 3)
        self.assertEqual(self.check((0, (6, 0), (6, 6))), 6)

    def test_rows_by_chance(self):
        chance = random.Random(340)
        for length in range(13):
            for factor in [1, 2, 6, 997, 10 ** 20]:
                row = many_times(chance, factor, length)
                self.assertEqual(self.check(row) % factor, 0)
                longer = lengthened(row, some_monic(chance, 0, chance.randint(0, 12 - length)))
                self.assertEqual(self.check(longer), divisor_of(row))

    def test_numbers_of_many_figures(self):
        for great in [10 ** 199, 10 ** 9000]:
            row = (0, (10 ** 199, -3), (6 * great, -9 * great))
            self.assertTrue(divisor_of(row) == 3 * great)

    def test_by_a_prime(self):
        for by in PRIMES:
            assert_refused(self, NoBy, divisor_of, (by, (1,), (0,)))
            assert_refused(self, NoBy, divisor_of, (by, (), ()))


class UndividedTest(unittest.TestCase):
    def check(self, row, divisor, start, step):
        told = undivided(row, divisor, start, step)
        found = step_by_step(row, start + step * 30)
        left = [k for k in range(30) if found[start + step * k] % divisor != 0]
        self.assertEqual(told, left[0] if left else None)
        if told is not None:
            self.assertIs(type(told), int)
            self.assertLess(told, len(row[1]))
        return told

    def test_told_ones(self):
        self.assertIsNone(undivided(FIBONACCI, 1, 0, 1))
        self.assertEqual(undivided(FIBONACCI, 2, 0, 1), 1)
        self.assertEqual(undivided(FIBONACCI, 2, 1, 1), 0)
        self.assertIsNone(undivided(FIBONACCI, 2, 0, 3))
        self.assertIsNone(undivided(FIBONACCI, 5, 100, 5))
        self.assertIsNone(undivided(FIBONACCI, 55, 0, 10))
        self.assertEqual(undivided(FIBONACCI, 56, 0, 10), 1)
        self.assertIsNone(undivided((0, (0, 1), (2, 3)), 2, 0, 2))
        self.assertEqual(undivided((0, (0, 1), (2, 3)), 2, 0, 1), 1)
        self.assertEqual(undivided((0, (0, 1), (2, 3)), 2, 1, 2), 0)

    def test_each_k_up_to_the_length(self):
        for length in range(1, 13):
            for k in range(length):
                starts = [6] * length
                starts[k] = 4
                row = (0, (0,) * (length - 1) + (1,), tuple(starts))
                self.assertEqual(self.check(row, 6, 0, 1), k)
                self.assertIsNone(self.check(row, 2, 0, 1))
                # Only at the last of the first places, as many as the length, for steps as well.
                step = 1 + length
                if step <= 10:
                    self.assertEqual(self.check(row, 6, 0, step), k)

    def test_rows_of_noughts(self):
        for length in range(13):
            for divisor in [1, 2, 10 ** 59]:
                self.assertIsNone(self.check((0, (5,) * length, (0,) * length), divisor, 100, 10))
                self.assertIsNone(self.check((0, (5,) * length, (0,) * length), divisor, 0, 1))

    def test_starts_and_steps(self):
        chance = random.Random(350)
        for length in [0, 1, 2, 3, 12]:
            for start in STARTS:
                for step in STEPS:
                    for factor in [1, 4, 30]:
                        row = many_times(chance, factor, length, 5)
                        for divisor in [1, factor, 2 * factor, 3, 7, 64]:
                            self.check(row, divisor, start, step)

    def test_every_start_and_every_step(self):
        row = (0, (1, 1, 0, 2), (0, 4, 2, 6))
        for start in range(101):
            for step in range(1, 11):
                self.check(row, 4, start, step)
                self.check(FIBONACCI, 8, start, step)

    def test_a_divisor_of_many_figures(self):
        chance = random.Random(351)
        for divisor in [10 ** 59, 10 ** 199, 7 ** 4000]:
            row = many_times(chance, divisor, 3)
            self.assertIsNone(undivided(row, divisor, 100, 10))
            self.assertEqual(undivided((0, (1, 1), (divisor, 3)), divisor, 0, 1), 1)

    def test_it_is_the_divisor_that_is_told(self):
        chance = random.Random(352)
        for length in range(1, 13):
            row = many_times(chance, 12, length)
            told = divisor_of(row)
            self.assertIsNone(undivided(row, told, 0, 1))
            for greater in [told + 1, 2 * told, 3 * told, 5 * told]:
                self.assertIsNotNone(undivided(row, greater, 0, 1))

    def test_too_far(self):
        for row in [FIBONACCI, (0, (), ()), (0, (1,), (0,))]:
            for divisor in [1, 2, 7]:
                for start in NO_STARTS:
                    for step in STEPS + NO_STEPS:
                        assert_refused(self, TooFar, undivided, row, divisor, start, step)
                for step in NO_STEPS:
                    for start in STARTS:
                        assert_refused(self, TooFar, undivided, row, divisor, start, step)

    def test_a_divisor_below_1(self):
        for row in [FIBONACCI, (0, (), ()), (0, (1,), (0,))]:
            for divisor in [0, -1, -2]:
                assert_refused(self, TooFar, undivided, row, divisor, 0, 1)

    def test_by_a_prime(self):
        for by in PRIMES:
            assert_refused(self, NoBy, undivided, (by, (1,), (0,)), 1, 0, 1)
        for row in [(7, (1, 1), (0, 1)), (7, (), ())]:
            for start in STARTS + NO_STARTS:
                for step in STEPS + NO_STEPS:
                    assert_refused(self, NoBy, undivided, row, 2, start, step)
            assert_refused(self, NoBy, undivided, row, 0, 0, 1)


class ByPrimeTest(unittest.TestCase):
    def test_told_ones(self):
        self.assertEqual(by_prime(FIBONACCI, 7), (7, (1, 1), (0, 1)))
        self.assertEqual(by_prime((0, (-1, 8), (7, -8)), 7), (7, (6, 1), (0, 6)))
        self.assertEqual(by_prime((0, (), ()), 2), (2, (), ()))
        self.assertEqual(by_prime((0, (2, 4), (6, 8)), 2), (2, (0, 0), (0, 0)))

    def test_its_places_are_the_rests_of_the_places(self):
        chance = random.Random(360)
        for prime in PRIMES:
            for length in [0, 1, 2, chance.randint(3, 12)]:
                row = some_row(chance, 0, length, chance.choice([9, 10 ** 6, 10 ** 199]))
                told = by_prime(row, prime)
                self.assertIs(is_row(told), True)
                self.assertEqual(told[0], prime)
                self.assertEqual(told[1], tuple(number % prime for number in row[1]))
                self.assertEqual(told[2], tuple(number % prime for number in row[2]))
                found = [number % prime for number in step_by_step(row, 30)]
                self.assertEqual(step_by_step(told, 30), found)

    def test_by_a_prime(self):
        for by in PRIMES:
            assert_refused(self, NoBy, by_prime, (by, (1,), (1,)), by)
            assert_refused(self, NoBy, by_prime, (by, (1,), (1,)), 2)
            assert_refused(self, NoBy, by_prime, (by, (), ()), 997)


class OwnTest(unittest.TestCase):
    def test_nothing_handed_in_is_changed(self):
        for row in some_rows():
            before = copy.deepcopy(row)
            for call in [lambda: divisor_of(row), lambda: undivided(row, 6, 3, 2), lambda: by_prime(row, 7)]:
                try:
                    told = call()
                except NoBy:
                    continue
                self.assertEqual(call(), told)
            self.assertEqual(row, before)


if __name__ == "__main__":
    unittest.main()
