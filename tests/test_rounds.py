import copy
import random
import unittest

from helper import (
    BYS, PRIMES, assert_refused, lengthened, shortest_by_chance, small_rows, some_monic, some_numbers, some_row,
    some_rows, step_by_step,
)
from nextbyrule.errors import NoBy, TooLong
from nextbyrule.rounds import round_of, where

# With these primes and lengths there are at most 4096 windows; with one number more there are more.
WIDEST = [(2, 12), (3, 7), (5, 5), (7, 4), (11, 3), (13, 3), (17, 2), (61, 2), (67, 1), (997, 1)]

# Rules by which each window but that of noughts alone comes before the first one again.
FULL_ROUNDS = [
    ((2, (0, 0, 0, 0, 0, 1, 0, 1, 0, 0, 1, 1), (1,) + (0,) * 11), 4095),
    ((2, (0, 0, 0, 0, 0, 0, 0, 0, 1, 0, 1), (0,) * 10 + (1,)), 2047),
    ((3, (0, 1, 2), (1, 0, 0)), 26),
    ((997, (7,), (1,)), 996),
]


def late(chance, by, length, early):
    """A row of this length whose first places, as many as told, are not of the round: the rule ends with noughts."""
    row = shortest_by_chance(chance, by, length)
    while length and row[1][-1] == 0:
        row = shortest_by_chance(chance, by, length)
    ahead = tuple(some_numbers(chance, by, early))
    return (by, row[1] + (0,) * early, ahead + row[2])


class RoundTest(unittest.TestCase):
    def check(self, row):
        told = round_of(row)
        self.assertIs(type(told), tuple)
        begin, length = told
        self.assertTrue(type(begin) is int and type(length) is int and begin >= 0 and length >= 1)
        # The differences of the row and the row farther on go by the row's rule: as many noughts as it is long do.
        wide = len(row[1])
        found = step_by_step(row, begin + 2 * length + wide)

        def agrees(start, step):
            return all(found[n + step] == found[n] for n in range(start, start + wide))

        self.assertTrue(agrees(begin, length))
        if begin > 0:
            self.assertNotEqual(found[begin - 1 + length], found[begin - 1])
        for lesser in range(1, length):
            self.assertFalse(agrees(begin, lesser))
        return told

    def test_told_ones(self):
        self.assertEqual(round_of((7, (1, 1), (0, 1))), (0, 16))
        self.assertEqual(round_of((2, (1, 1), (0, 1))), (0, 3))
        self.assertEqual(round_of((5, (1, 1), (0, 1))), (0, 20))
        self.assertEqual(round_of((5, (1, 1), (1, 3))), (0, 4))
        self.assertEqual(round_of((7, (1,), (3,))), (0, 1))
        self.assertEqual(round_of((7, (6,), (3,))), (0, 2))
        self.assertEqual(round_of((7, (0,), (3,))), (1, 1))
        self.assertEqual(round_of((7, (0, 0, 0), (0, 0, 3))), (3, 1))
        self.assertEqual(round_of((7, (0, 0, 0), (3, 0, 0))), (1, 1))
        self.assertEqual(round_of((7, (2, 0), (1, 1))), (1, 3))

    def test_of_the_length_0(self):
        for by in PRIMES:
            self.assertEqual(round_of((by, (), ())), (0, 1))
            self.assertEqual(round_of((by, (1,) * 12, (0,) * 12)), (0, 1))

    def test_all_small_rows(self):
        for by, lengths in [(2, range(5)), (3, range(4)), (5, range(3)), (7, range(2))]:
            for row in small_rows(by, lengths):
                self.check(row)

    def test_rows_by_chance(self):
        chance = random.Random(300)
        for by, most in [(2, 9), (3, 5), (5, 4), (7, 3), (31, 2), (101, 1), (997, 1)]:
            for length in range(most + 1):
                for turn in range(4):
                    self.check(some_row(chance, by, length))

    def test_full_rounds(self):
        for row, length in FULL_ROUNDS:
            self.assertEqual(self.check(row), (0, length))

    def test_rows_that_begin_late(self):
        chance = random.Random(301)
        begins = []
        for by, most in [(2, 12), (3, 7), (5, 5), (13, 3), (61, 2), (997, 1)]:
            for early in range(1, most + 1):
                begin = self.check(late(chance, by, chance.randint(0, most - early), early))[0]
                self.assertLessEqual(begin, early)
                begins.append(begin)
        self.assertGreater(len(set(begins)), 8)

    def test_ones_behind_noughts(self):
        for by, most in WIDEST:
            for early in range(most):
                row = (by, (1,) + (0,) * early, (0,) * early + (1,))
                self.assertEqual(round_of(row), (early, 1))
                # Where the noughts are ones as well, they are of the round.
                self.assertEqual(round_of((by, row[1], (1,) * (early + 1))), (0, 1))

    def test_a_rule_longer_than_need_be(self):
        chance = random.Random(302)
        for by, most in WIDEST:
            for turn in range(3):
                row = some_row(chance, by, chance.randint(0, min(most, 3)))
                longer = lengthened(row, some_monic(chance, by, 12 - len(row[1])))
                self.assertEqual(len(longer[1]), 12)
                self.assertEqual(round_of(longer), round_of(row))
                begin, length = round_of(longer)
                found = step_by_step(longer, begin + length + 24)
                self.assertTrue(all(found[n + length] == found[n] for n in range(begin, begin + 24)))

    def test_as_many_windows_as_are_let_in(self):
        chance = random.Random(303)
        for by, most in WIDEST:
            row = shortest_by_chance(chance, by, most)
            self.assertLessEqual(by ** most, 4096)
            self.check(row)
            longer = lengthened(row, some_monic(chance, by, 12 - most))
            self.assertEqual(round_of(longer), round_of(row))

    def test_more_windows_are_refused(self):
        chance = random.Random(304)
        for by, most in WIDEST[1:]:
            self.assertGreater(by ** (most + 1), 4096)
            for length in range(most + 1, 13):
                row = shortest_by_chance(chance, by, length)
                longer = lengthened(row, some_monic(chance, by, chance.randint(0, 12 - length)))
                for refused in [row, longer]:
                    assert_refused(self, TooLong, round_of, refused)
                    assert_refused(self, TooLong, where, refused, 0)

    def test_the_bound_by_each_prime(self):
        for by in PRIMES:
            most = max(d for d in range(13) if by ** d <= 4096)
            # A number alone behind noughts: of the length that it has no shorter rule will do.
            self.assertEqual(round_of((by, (0,) * most, (0,) * (most - 1) + (1,))), (most, 1))
            if most < 12:
                row = (by, (0,) * (most + 1), (0,) * most + (1,))
                assert_refused(self, TooLong, round_of, row)
                assert_refused(self, TooLong, where, row, 1)

    def test_by_0(self):
        chance = random.Random(305)
        for length in range(13):
            row = some_row(chance, 0, length)
            assert_refused(self, NoBy, round_of, row)
            assert_refused(self, NoBy, where, row, 0)
        assert_refused(self, NoBy, round_of, (0, (1,), (1,)))
        assert_refused(self, NoBy, where, (0, (1,), (1,)), 1)


class WhereTest(unittest.TestCase):
    def check(self, row, numbers):
        begin, length = round_of(row)
        found = step_by_step(row, begin + 3 * length)
        for number in numbers:
            told = where(row, number)
            self.assertIs(type(told), tuple)
            early, starts, step = told
            self.assertIs(type(early), list)
            self.assertIs(type(starts), list)
            self.assertEqual(step, length)
            self.assertEqual(early, [n for n in range(begin) if found[n] == number])
            self.assertEqual(starts, [n for n in range(begin, begin + length) if found[n] == number])
            # The early ones, and each start and any number of times the length behind it: no other places.
            spread = early + [start + turn * length for turn in range(3) for start in starts]
            self.assertEqual(spread, [n for n in range(len(found)) if found[n] == number])

    def test_told_ones(self):
        self.assertEqual(where((7, (1, 1), (0, 1)), 0), ([], [0, 8], 16))
        self.assertEqual(where((7, (1, 1), (0, 1)), 1), ([], [1, 2, 6, 15], 16))
        self.assertEqual(where((7, (2, 0), (1, 1)), 1), ([0], [1], 3))
        self.assertEqual(where((7, (2, 0), (1, 1)), 4), ([], [3], 3))
        self.assertEqual(where((7, (0, 0, 0), (3, 0, 3)), 3), ([0, 2], [], 1))
        self.assertEqual(where((7, (0, 0, 0), (3, 0, 3)), 0), ([1], [3], 1))

    def test_a_number_that_the_row_never_has(self):
        self.assertEqual(where((7, (2,), (1,)), 3), ([], [], 3))
        self.assertEqual(where((7, (2, 0), (3, 1)), 5), ([], [], 3))
        for by in PRIMES:
            self.assertEqual(where((by, (1,), (1,)), 0), ([], [], 1))

    def test_each_place_with_one_number_alone(self):
        for by in PRIMES:
            for number in {0, 1, by - 1}:
                self.assertEqual(where((by, (1,), (number,)), number), ([], [0], 1))
            self.assertEqual(where((by, (), ()), 0), ([], [0], 1))
            self.assertEqual(where((by, (), ()), 1), ([], [], 1))

    def test_all_small_rows(self):
        for by, lengths in [(2, range(5)), (3, range(3)), (5, range(3)), (7, range(2))]:
            for row in small_rows(by, lengths):
                self.check(row, range(by))

    def test_rows_by_chance(self):
        chance = random.Random(310)
        for by, most in [(2, 10), (3, 6), (5, 4), (7, 3), (31, 2), (997, 1)]:
            for length in range(most + 1):
                row = some_row(chance, by, length)
                self.check(row, sorted({0, 1, by - 1, chance.randrange(by), row[2][0] if length else 0}))

    def test_rows_that_begin_late(self):
        chance = random.Random(311)
        for by, most in [(2, 12), (3, 7), (5, 5), (13, 3), (61, 2), (997, 1)]:
            for early in range(1, most + 1):
                row = late(chance, by, chance.randint(0, most - early), early)
                self.check(row, sorted({0, 1, by - 1} | set(row[2])))

    def test_full_rounds(self):
        for row, length in FULL_ROUNDS:
            self.check(row, [0, 1])
            # Each window but that of noughts alone is there: so each number but 0 comes as often as each other one.
            by, wide = row[0], len(row[1])
            self.assertEqual(len(where(row, 0)[1]), by ** (wide - 1) - 1)
            self.assertEqual(len(where(row, by - 1)[1]), by ** (wide - 1))

    def test_a_rule_longer_than_need_be(self):
        chance = random.Random(312)
        for by in BYS[1:]:
            row = some_row(chance, by, 1)
            longer = lengthened(row, some_monic(chance, by, 11))
            self.check(longer, sorted({0, 1, row[2][0], by - 1}))


class OwnTest(unittest.TestCase):
    def test_nothing_handed_in_is_changed(self):
        for row in some_rows():
            before = copy.deepcopy(row)
            for call in [lambda: round_of(row), lambda: where(row, 0)]:
                try:
                    call()
                except (NoBy, TooLong):
                    pass
            self.assertEqual(row, before)

    def test_what_is_told_is_the_askers_own(self):
        row = (7, (2, 0), (1, 1))
        told = where(row, 1)
        told[0].append(5)
        told[1].clear()
        self.assertEqual(where(row, 1), ([0], [1], 3))
        self.assertEqual(round_of(row), (1, 3))


if __name__ == "__main__":
    unittest.main()
