import random
import unittest

from helper import NO_WHOLE_NUMBERS, PRIMES, assert_refused
from nextbyrule.errors import NoNumber
from nextbyrule.numbers import is_by, is_number, over, taken

SIXTY_FIGURES = int("123456789" * 6 + "987654")
GREAT = [10 ** 59, SIXTY_FIGURES, 10 ** 60 - 1, 10 ** 200 + 1, 10 ** 3999 + 7]


class IsByTest(unittest.TestCase):
    def test_just_0_and_the_primes_below_1000(self):
        self.assertEqual(len(PRIMES), 168)
        for thing in range(-1100, 1100):
            self.assertIs(is_by(thing), thing == 0 or thing in PRIMES, thing)

    def test_products(self):
        for thing in [4, 6, 9, 25, 49, 121, 529, 841, 961, 2 * 499, 31 * 29, 999]:
            self.assertIs(is_by(thing), False, thing)

    def test_primes_above_1000(self):
        for thing in [1009, 1013, 7919, 104729, 2 ** 31 - 1, 2 ** 61 - 1, 2 ** 127 - 1]:
            self.assertIs(is_by(thing), False, thing)

    def test_numbers_of_many_figures(self):
        for thing in GREAT:
            self.assertIs(is_by(thing), False)
            self.assertIs(is_by(-thing), False)

    def test_things_of_other_kinds(self):
        for thing in NO_WHOLE_NUMBERS:
            self.assertIs(is_by(thing), False, thing)


class IsNumberTest(unittest.TestCase):
    def test_by_0_every_whole_number(self):
        for thing in list(range(-50, 50)) + GREAT:
            self.assertIs(is_number(0, thing), True)
            self.assertIs(is_number(0, -thing), True)

    def test_by_a_prime_just_the_rests(self):
        for by in [2, 3, 5, 7, 31, 499, 997]:
            for thing in range(-2 * by, 2 * by + 1):
                self.assertIs(is_number(by, thing), thing in range(by), (by, thing))

    def test_by_a_prime_no_great_ones(self):
        for by in PRIMES:
            for thing in GREAT:
                self.assertIs(is_number(by, thing), False)
                self.assertIs(is_number(by, -thing), False)

    def test_things_of_other_kinds(self):
        for by in [0, 2, 3, 997]:
            for thing in NO_WHOLE_NUMBERS:
                self.assertIs(is_number(by, thing), False, (by, thing))


class TakenTest(unittest.TestCase):
    def test_by_0_the_number_itself(self):
        for number in list(range(-50, 50)) + GREAT:
            self.assertTrue(taken(0, number) == number)
            self.assertTrue(taken(0, -number) == -number)

    def test_by_a_prime_the_rest(self):
        for by in PRIMES:
            for number in [0, 1, by - 1, by, by + 1, 3 * by + 1, 1000] + GREAT:
                for signed in [number, -number]:
                    rest = taken(by, signed)
                    self.assertIn(rest, range(by))
                    self.assertTrue((signed - rest) % by == 0)

    def test_told_ones(self):
        self.assertEqual(taken(7, 9), 2)
        self.assertEqual(taken(7, -1), 6)
        self.assertEqual(taken(7, -7), 0)
        self.assertEqual(taken(2, -3), 1)
        self.assertEqual(taken(5, -(10 ** 59) - 1), 4)
        self.assertEqual(taken(3, 10 ** 59), 1)
        self.assertEqual(taken(3, -(10 ** 59)), 2)


class OverTest(unittest.TestCase):
    def check(self, by, one, other):
        number = over(by, one, other)
        self.assertIn(number, range(by))
        self.assertEqual(number * other % by, one, (by, one, other))

    def test_all_pairs_by_small_primes(self):
        for by in [2, 3, 5, 7, 11, 13, 31]:
            for one in range(by):
                for other in range(1, by):
                    self.check(by, one, other)

    def test_many_pairs_by_every_prime(self):
        chance = random.Random(4)
        for by in PRIMES:
            for other in [1, by - 1] + [chance.randrange(1, by) for turn in range(20)]:
                for one in [0, 1, by - 1, chance.randrange(by)]:
                    self.check(by, one, other)

    def test_one_over_every_number_by_997(self):
        for other in range(1, 997):
            self.check(997, 1, other)
            self.check(997, 996, other)

    def test_told_ones(self):
        self.assertEqual(over(7, 1, 3), 5)
        self.assertEqual(over(7, 2, 4), 4)
        self.assertEqual(over(2, 1, 1), 1)
        self.assertEqual(over(2, 0, 1), 0)
        self.assertEqual(over(997, 1, 2), 499)

    def test_numbers_beyond_the_rests_are_taken(self):
        for by in [2, 3, 7, 997]:
            for other in range(by + 1, 2 * by):
                self.assertEqual(over(by, by + 1, other), over(by, 1, other - by))
            assert_refused(self, NoNumber, over, by, 1, by)

    def test_over_0_is_refused(self):
        for by in PRIMES:
            for one in [0, 1, by - 1]:
                assert_refused(self, NoNumber, over, by, one, 0)

    def test_by_0_all_is_refused(self):
        for one in [-6, 0, 1, 6, 10 ** 60]:
            for other in [-3, -1, 0, 1, 3, 10 ** 60]:
                assert_refused(self, NoNumber, over, 0, one, other)


class AgainTest(unittest.TestCase):
    def test_asked_again_the_same_is_told(self):
        for turn in range(3):
            self.assertEqual([is_by(5), is_by(6)], [True, False])
            self.assertEqual([is_number(5, 4), is_number(5, 5)], [True, False])
            self.assertEqual([taken(5, -7), over(5, 2, 3)], [3, 4])

    def test_nothing_handed_in_is_changed(self):
        thing = [2, [3], {"a": [5]}]
        self.assertIs(is_by(thing), False)
        self.assertIs(is_number(0, thing), False)
        self.assertEqual(thing, [2, [3], {"a": [5]}])


if __name__ == "__main__":
    unittest.main()
