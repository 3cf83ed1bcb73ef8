import copy
import itertools
import random
import unittest

from helper import (
    BYS, FIBONACCI, PRIMES, is_shortest, lengthened, product, rest, some_monic, some_numbers, some_row, some_rows,
    step_by_step,
)
from nextbyrule.rows import is_row
from nextbyrule.shortest import shortest, table_of
from nextbyrule.tables import determinant


class ShortestTest(unittest.TestCase):
    def check(self, row):
        told = shortest(row)
        self.assertIs(is_row(told), True)
        self.assertEqual(told[0], row[0])
        count = 2 * len(row[1]) + 20
        self.assertTrue(step_by_step(told, count) == step_by_step(row, count))
        self.assertTrue(is_shortest(told), (row, told))
        return told

    def test_told_ones(self):
        self.assertEqual(shortest(FIBONACCI), FIBONACCI)
        self.assertEqual(shortest((0, (2, 0, -1), (0, 1, 1))), FIBONACCI)
        self.assertEqual(shortest((0, (0, 1), (5, 5))), (0, (1,), (5,)))
        self.assertEqual(shortest((0, (0, 1), (5, -5))), (0, (-1,), (5,)))
        self.assertEqual(shortest((0, (3, -2), (1, 2))), (0, (2,), (1,)))
        self.assertEqual(shortest((0, (0, 0, 0), (5, 0, 0))), (0, (0,), (5,)))
        self.assertEqual(shortest((0, (0, 0, 0), (0, 5, 0))), (0, (0, 0), (0, 5)))
        self.assertEqual(shortest((0, (1, 0), (5, 7))), (0, (1, 0), (5, 7)))
        self.assertEqual(shortest((0, (1, 0), (7, 7))), (0, (1,), (7,)))
        self.assertEqual(shortest((7, (1, 6), (3, 3))), (7, (1, 6), (3, 3)))
        self.assertEqual(shortest((5, (3, 3), (1, 2))), (5, (2,), (1,)))
        self.assertEqual(shortest((2, (0, 1), (1, 1))), (2, (1,), (1,)))

    def test_rows_of_noughts(self):
        chance = random.Random(50)
        for by in BYS + PRIMES:
            self.assertEqual(shortest((by, (), ())), (by, (), ()))
        for by in BYS:
            for length in range(13):
                rule = tuple(some_numbers(chance, by, length))
                self.assertEqual(shortest((by, rule, (0,) * length)), (by, (), ()))

    def test_rows_by_chance(self):
        for row in some_rows():
            told = self.check(row)
            self.assertEqual(shortest(told), told)
            if is_shortest(row):
                self.assertEqual(told, row)

    def test_rules_longer_than_they_need_be(self):
        chance = random.Random(51)
        for by in BYS:
            for length in range(13):
                row = some_row(chance, by, length, 20)
                if not is_shortest(row):
                    continue
                for more in range(13 - length):
                    for factor in [some_monic(chance, by, more, 20), (0,) * more + (1,)]:
                        longer = lengthened(row, factor)
                        self.assertEqual(len(longer[1]), length + more)
                        self.assertEqual(shortest(longer), row)

    def test_repeated_and_common_parts(self):
        for by in [0, 2, 3, 5, 7]:
            for row in [(by, (1,), (1,)), (by, (1, 1), (0, 1)), (by, (rest(by, 2), rest(by, -1)), (0, 1))]:
                self.assertTrue(is_shortest(row))
                factor = (1,)
                while len(factor) + len(row[1]) <= 13:
                    self.assertEqual(shortest(lengthened(row, factor)), row)
                    factor = product(by, factor, (rest(by, -1), 1))

    def test_all_small_ones(self):
        for by, lengths in [(2, [0, 1, 2, 3, 4]), (3, [0, 1, 2]), (5, [1, 2])]:
            told = {}
            for length in lengths:
                for rule in itertools.product(range(by), repeat=length):
                    for starts in itertools.product(range(by), repeat=length):
                        row = (by, rule, starts)
                        told.setdefault(tuple(step_by_step(row, 20)), set()).add(self.check(row))
            # Rows of such lengths that agree at twenty places agree at all.
            self.assertTrue(all(len(rows) == 1 for rows in told.values()))
            self.assertEqual(len(set.union(*told.values())), len(told))

    def test_all_small_ones_by_0(self):
        told = {}
        for length in range(4):
            numbers = [-1, 0, 1, 2] if length < 3 else [-1, 0, 1]
            for rule in itertools.product(numbers, repeat=length):
                for starts in itertools.product(numbers, repeat=length):
                    row = (0, rule, starts)
                    told.setdefault(tuple(step_by_step(row, 12)), set()).add(self.check(row))
        self.assertTrue(all(len(rows) == 1 for rows in told.values()))
        self.assertEqual(len(set.union(*told.values())), len(told))

    def test_rows_that_agree_have_equal_shortest_rows(self):
        chance = random.Random(52)
        for by in BYS:
            for turn in range(30):
                row = some_row(chance, by, chance.randrange(7), 5)
                one = lengthened(row, some_monic(chance, by, chance.randrange(7), 5))
                other = lengthened(row, some_monic(chance, by, chance.randrange(7), 5))
                self.assertEqual(shortest(one), shortest(other))
                if one[2]:
                    amiss = one[2][:-1] + (rest(by, one[2][-1] + 1),)
                    self.assertNotEqual(shortest((by, one[1], amiss)), shortest(one))

    def test_by_every_prime(self):
        chance = random.Random(53)
        for by in PRIMES:
            row = self.check(some_row(chance, by, 4))
            self.assertEqual(shortest(lengthened(row, some_monic(chance, by, 5))), row)

    def test_numbers_of_two_hundred_figures(self):
        chance = random.Random(54)
        for length in [1, 2, 6, 12]:
            row = some_row(chance, 0, length, 10 ** 200 - 1)
            self.assertEqual(shortest(row), row)
        row = some_row(chance, 0, 6, 10 ** 95)
        factor = some_monic(chance, 0, 6, 10 ** 95)
        self.assertEqual(shortest(lengthened(row, factor)), row)

    def test_starts_of_far_more_figures(self):
        chance = random.Random(55)
        row = some_row(chance, 0, 5, 10 ** 40)
        longer = lengthened(row, some_monic(chance, 0, 7, 10 ** 40))
        far = tuple(step_by_step(row, 312)[300:])
        self.assertTrue(shortest((0, row[1], far[:5])) == (0, row[1], far[:5]))
        self.assertTrue(shortest((0, longer[1], far)) == (0, row[1], far[:5]))

    def test_places_that_many_primes_divide(self):
        # By each of these primes the row is one of noughts, or shorter than it is.
        around = [n for n in range(10 ** 6, 10 ** 6 + 400) if all(n % d for d in range(2, 1001))]
        factor = 1
        for prime in PRIMES + around:
            factor *= prime
        scaled = (0, (1, 1), (0, factor))
        self.assertEqual(shortest(scaled), scaled)
        self.assertEqual(shortest(lengthened(scaled, (3, 0, -2, 1))), scaled)
        mixed = (0, (3, -2), (1 + factor, 1 + 2 * factor))
        self.assertEqual(shortest(mixed), mixed)
        self.assertEqual(shortest(lengthened(mixed, (factor, -factor, 5, 1))), mixed)

    def test_noughts_ahead_and_behind(self):
        for by in BYS:
            for length in range(1, 13):
                late = (by, (1,) * length, (0,) * (length - 1) + (1,))
                self.assertEqual(self.check(late), late)
                ended = (by, (0,) * length, (1,) * length)
                self.assertEqual(shortest(ended), ended)
                self.assertEqual(shortest((by, (0,) * length, (1,) + (0,) * (length - 1))), (by, (0,), (1,)))


class TableOfTest(unittest.TestCase):
    def test_told_ones(self):
        self.assertEqual(table_of(FIBONACCI, 0), [])
        self.assertEqual(table_of(FIBONACCI, 1), [[0]])
        self.assertEqual(table_of(FIBONACCI, 2), [[0, 1], [1, 1]])
        self.assertEqual(table_of(FIBONACCI, 3), [[0, 1, 1], [1, 1, 2], [1, 2, 3]])
        self.assertEqual(table_of((7, (1, 1), (3, 5)), 3), [[3, 5, 1], [5, 1, 6], [1, 6, 0]])
        self.assertEqual(table_of((0, (), ()), 2), [[0, 0], [0, 0]])

    def test_of_each_size(self):
        for row in some_rows():
            found = step_by_step(row, 24)
            for size in range(13):
                told = table_of(row, size)
                self.assertEqual([type(part) for part in [told] + told], [list] * (size + 1))
                self.assertEqual(told, [[found[i + j] for j in range(size)] for i in range(size)])

    def test_its_determinant(self):
        chance = random.Random(56)
        for by in BYS:
            for length in range(13):
                row = some_row(chance, by, length, 9)
                if length < 8:
                    row = lengthened(row, some_monic(chance, by, 3, 9))
                least = len(shortest(row)[1])
                self.assertNotEqual(determinant(by, table_of(row, least)), 0)
                for size in range(least + 1, 13):
                    self.assertEqual(determinant(by, table_of(row, size)), 0)


class OwnTest(unittest.TestCase):
    def test_what_is_handed_in_stays_as_it_was(self):
        rows = some_rows()
        before = copy.deepcopy(rows)
        for row in rows:
            self.assertEqual(shortest(row), shortest(copy.deepcopy(row)))
            table_of(row, 5)
        self.assertEqual(rows, before)

    def test_told_tables_that_are_changed_change_nothing(self):
        for row in some_rows():
            told = table_of(row, 4)
            kept = copy.deepcopy(told)
            told[0][1] = "amiss"
            self.assertEqual(told[1], kept[1])
            told[2].clear()
            told.append([])
            self.assertEqual(table_of(row, 4), kept)


if __name__ == "__main__":
    unittest.main()
