import copy
import itertools
import random
import unittest

from helper import BYS, PRIMES, product, rest, some_monic, some_numbers, some_row, some_rows, step_by_step
from nextbyrule.polys import divided, greatest, keeps, of_rule, plus, rule_of, times

SMALL_PRIMES = [2, 3, 5, 7]


def is_poly(by, thing):
    whole = type(thing) is tuple and all(type(number) is int for number in thing)
    return whole and all(rest(by, number) == number for number in thing) and (thing == () or thing[-1] != 0)


def some_poly(chance, by, length, great=10 ** 6):
    if length == 0:
        return ()
    numbers = some_numbers(chance, by, length - 1, great)
    return tuple(numbers + [chance.randint(1, great if by == 0 else by - 1)])


def some_polys(chance, by, longest):
    return [some_poly(chance, by, length) for length in range(longest + 1)]


def negative(by, poly):
    return tuple(rest(by, -number) for number in poly)


def total(by, one, other):
    """The sum of two, number by number, with nothing of the program in it."""
    numbers = [rest(by, a + b) for a, b in itertools.zip_longest(one, other, fillvalue=0)]
    while numbers and numbers[-1] == 0:
        numbers.pop()
    return tuple(numbers)


def all_polys(by, longest):
    """Each polynomial by a small prime of at most so many numbers."""
    lists = [numbers for length in range(longest + 1) for numbers in itertools.product(range(by), repeat=length)]
    return [numbers for numbers in lists if numbers == () or numbers[-1] != 0]


class PolyTest(unittest.TestCase):
    def assert_poly(self, by, told, wished):
        self.assertTrue(is_poly(by, told), told)
        self.assertEqual(told, wished)


class PlusTest(PolyTest):
    def test_told_ones(self):
        self.assert_poly(0, plus(0, (1, 2), (3, 4, 5)), (4, 6, 5))
        self.assert_poly(7, plus(7, (1, 6), (3, 4, 5)), (4, 3, 5))
        self.assert_poly(0, plus(0, (), ()), ())

    def test_number_by_number(self):
        chance = random.Random(8)
        for by in BYS:
            polys = some_polys(chance, by, 8) + [some_poly(chance, by, 40)]
            for one in polys:
                for other in polys:
                    self.assert_poly(by, plus(by, one, other), total(by, one, other))

    def test_of_nothing(self):
        chance = random.Random(9)
        for by in BYS:
            for one in some_polys(chance, by, 12):
                self.assert_poly(by, plus(by, one, ()), one)
                self.assert_poly(by, plus(by, (), one), one)

    def test_no_0_stands_last(self):
        chance = random.Random(10)
        for by in BYS:
            for one in some_polys(chance, by, 12):
                self.assert_poly(by, plus(by, one, negative(by, one)), ())
                for other in some_polys(chance, by, len(one)):
                    rising = total(by, one, other)
                    self.assert_poly(by, plus(by, rising, negative(by, one)), other)
        self.assert_poly(0, plus(0, (1, 0, 0, 2), (5, 0, 0, -2)), (6,))
        self.assert_poly(0, plus(0, (0, 1, 2), (0, 3, -2)), (0, 4))
        self.assert_poly(2, plus(2, (1, 0, 1, 1), (0, 0, 1, 1)), (1,))
        self.assert_poly(7, plus(7, (3, 2, 3), (4, 5, 4)), ())


class TimesTest(PolyTest):
    def test_told_ones(self):
        self.assert_poly(0, times(0, (1, 1), (-1, 1)), (-1, 0, 1))
        self.assert_poly(2, times(2, (1, 1), (1, 1)), (1, 0, 1))
        self.assert_poly(7, times(7, (3,), (5, 4)), (1, 5))
        self.assert_poly(0, times(0, (0, 2), (0, 0, -3)), (0, 0, 0, -6))

    def test_number_by_number(self):
        chance = random.Random(11)
        for by in BYS:
            polys = some_polys(chance, by, 8) + [some_poly(chance, by, 20)]
            for one in polys:
                for other in polys:
                    self.assert_poly(by, times(by, one, other), product(by, one, other))

    def test_of_nothing_and_of_one(self):
        chance = random.Random(12)
        for by in BYS:
            for one in some_polys(chance, by, 40):
                self.assert_poly(by, times(by, one, ()), ())
                self.assert_poly(by, times(by, (), one), ())
                self.assert_poly(by, times(by, one, (1,)), one)
                self.assert_poly(by, times(by, (1,), one), one)

    def test_as_long_as_may_be(self):
        chance = random.Random(13)
        for by in BYS:
            one, other = some_poly(chance, by, 20), some_poly(chance, by, 21)
            told = times(by, one, other)
            self.assertEqual(len(told), 40)
            self.assert_poly(by, told, product(by, one, other))

    def test_numbers_of_many_figures(self):
        chance = random.Random(14)
        one, other = some_poly(chance, 0, 5, 10 ** 3999), some_poly(chance, 0, 6, 10 ** 3999)
        self.assertTrue(times(0, one, other) == product(0, one, other))
        self.assertTrue(plus(0, one, other) == total(0, one, other))


class DividedTest(PolyTest):
    def check(self, by, one, other):
        told = divided(by, one, other)
        self.assertIs(type(told), tuple)
        often, left = told
        self.assertTrue(is_poly(by, often) and is_poly(by, left), told)
        self.assertLess(len(left), len(other))
        self.assertEqual(total(by, product(by, often, other), left), one)

    def test_told_ones(self):
        self.assertEqual(divided(0, (-1, 0, 1), (1, 1)), ((-1, 1), ()))
        self.assertEqual(divided(0, (5, 3, 2), (1, 1)), ((1, 2), (4,)))
        self.assertEqual(divided(7, (5, 3, 2), (1, 1)), ((1, 2), (4,)))
        self.assertEqual(divided(2, (1, 1, 1), (1, 1)), ((0, 1), (1,)))

    def test_all_small_ones(self):
        for by in [2, 3]:
            polys = all_polys(by, 4)
            for one in polys:
                for other in [poly for poly in polys if poly and poly[-1] == 1]:
                    self.check(by, one, other)

    def test_by_monic_ones_of_each_length(self):
        chance = random.Random(15)
        for by in BYS:
            for one in some_polys(chance, by, 16) + [some_poly(chance, by, 40)]:
                for degree in range(14):
                    self.check(by, one, some_monic(chance, by, degree))

    def test_by_one(self):
        chance = random.Random(16)
        for by in BYS:
            for one in some_polys(chance, by, 40):
                self.assertEqual(divided(by, one, (1,)), (one, ()))

    def test_one_shorter_than_the_other(self):
        chance = random.Random(17)
        for by in BYS:
            for degree in range(13):
                other = some_monic(chance, by, degree)
                for one in some_polys(chance, by, degree):
                    self.assertEqual(divided(by, one, other), ((), one))

    def test_nothing_and_itself(self):
        chance = random.Random(18)
        for by in BYS:
            for degree in range(40):
                other = some_monic(chance, by, degree)
                self.assertEqual(divided(by, (), other), ((), ()))
                self.assertEqual(divided(by, other, other), ((1,), ()))

    def test_a_product(self):
        chance = random.Random(19)
        for by in BYS:
            for often in some_polys(chance, by, 10):
                for degree in range(10):
                    other = some_monic(chance, by, degree)
                    self.assertEqual(divided(by, product(by, often, other), other), (often, ()))


class GreatestTest(PolyTest):
    def divides(self, by, one, other):
        return divided(by, other, one)[1] == ()

    def test_told_ones(self):
        self.assert_poly(7, greatest(7, (6, 0, 1), (1, 2, 1)), (1, 1))
        self.assert_poly(2, greatest(2, (1, 0, 1), (1, 1)), (1, 1))
        self.assert_poly(5, greatest(5, (2, 4), (1, 2)), (3, 1))
        self.assert_poly(5, greatest(5, (3,), (4,)), (1,))

    def test_all_small_ones_against_all_that_divide(self):
        for by, longest in [(2, 5), (3, 3)]:
            polys = all_polys(by, longest)
            monics = [poly for poly in polys if poly and poly[-1] == 1]
            for one in polys:
                for other in polys:
                    if one or other:
                        both = [m for m in monics if self.divides(by, m, one) and self.divides(by, m, other)]
                        longest_ones = [m for m in both if len(m) == max(len(b) for b in both)]
                        self.assertEqual([greatest(by, one, other)], longest_ones, (by, one, other))

    def test_it_is_monic_and_divides_both_and_all_that_divide_both_divide_it(self):
        chance = random.Random(20)
        for by in SMALL_PRIMES + [101, 997]:
            for turn in range(60):
                shared = some_monic(chance, by, chance.randrange(6))
                one = product(by, shared, some_poly(chance, by, chance.randrange(1, 7)))
                other = product(by, shared, some_poly(chance, by, chance.randrange(0, 7)))
                told = greatest(by, one, other)
                self.assertTrue(is_poly(by, told))
                self.assertEqual(told[-1], 1)
                self.assertTrue(self.divides(by, told, one) and self.divides(by, told, other))
                self.assertTrue(self.divides(by, shared, told))
                self.assertEqual(told, greatest(by, other, one))

    def test_one_of_them_nothing(self):
        chance = random.Random(21)
        for by in PRIMES:
            for length in [1, 2, 5, 12]:
                one = some_poly(chance, by, length)
                told = greatest(by, one, ())
                self.assertEqual(told, greatest(by, (), one))
                self.assertEqual(told[-1], 1)
                self.assertEqual(product(by, told, one[-1:]), one)

    def test_equal_ones_and_multiples_by_a_number(self):
        chance = random.Random(22)
        for by in SMALL_PRIMES + [997]:
            for degree in range(13):
                one = some_monic(chance, by, degree)
                self.assertEqual(greatest(by, one, one), one)
                for factor in range(1, min(by, 8)):
                    more = product(by, one, (factor,))
                    self.assertEqual(greatest(by, more, more), one)
                    self.assertEqual(greatest(by, one, more), one)

    def test_ones_without_a_common_part(self):
        for by in SMALL_PRIMES + [101, 997]:
            self.assertEqual(greatest(by, (0, 1), (1, 1)), (1,))
            self.assertEqual(greatest(by, (0, 0, 0, 1), (1, 0, 1, 1)), (1,))
            self.assertEqual(greatest(by, (by - 1,), (0, 0, 1)), (1,))

    def test_forty_numbers(self):
        chance = random.Random(23)
        for by in [2, 7, 997]:
            shared = some_monic(chance, by, 20)
            one = product(by, shared, some_poly(chance, by, 20))
            other = product(by, shared, some_poly(chance, by, 20))
            self.assertEqual((len(one), len(other)), (40, 40))
            told = greatest(by, one, other)
            self.assertTrue(self.divides(by, told, one) and self.divides(by, told, other))
            self.assertTrue(self.divides(by, shared, told))


class RuleTest(PolyTest):
    def test_told_ones(self):
        self.assert_poly(0, of_rule(0, (1, 1)), (-1, -1, 1))
        self.assert_poly(7, of_rule(7, (1, 1)), (6, 6, 1))
        self.assert_poly(0, of_rule(0, (1, 2, 3)), (-3, -2, -1, 1))
        self.assert_poly(5, of_rule(5, (1, 2, 3)), (2, 3, 4, 1))
        self.assert_poly(2, of_rule(2, (1, 0)), (0, 1, 1))
        self.assertEqual(rule_of(0, (-3, -2, -1, 1)), (1, 2, 3))
        self.assertEqual(rule_of(5, (2, 3, 4, 1)), (1, 2, 3))

    def test_of_nothing(self):
        for by in BYS:
            self.assertEqual(of_rule(by, ()), (1,))
            self.assertEqual(rule_of(by, (1,)), ())

    def test_each_number_where_the_document_has_it(self):
        for by, rule, starts in some_rows():
            told = of_rule(by, rule)
            length = len(rule)
            self.assertTrue(is_poly(by, told))
            self.assertEqual(len(told), length + 1)
            self.assertEqual(told[length], 1)
            for k in range(length):
                self.assertEqual(told[k], rest(by, -rule[length - 1 - k]))

    def test_noughts(self):
        for by in BYS:
            for length in range(13):
                self.assertEqual(of_rule(by, (0,) * length), (0,) * length + (1,))
                self.assertEqual(rule_of(by, (0,) * length + (1,)), (0,) * length)

    def test_each_undoes_the_other(self):
        chance = random.Random(24)
        for by, rule, starts in some_rows():
            self.assertEqual(rule_of(by, of_rule(by, rule)), rule)
            self.assertIs(type(rule_of(by, of_rule(by, rule))), tuple)
        for by in BYS:
            for degree in range(40):
                poly = some_monic(chance, by, degree)
                self.assertEqual(of_rule(by, rule_of(by, poly)), poly)

    def test_by_every_prime_the_numbers_are_taken(self):
        for by in PRIMES:
            rule = (1, by - 1, 0)
            self.assertEqual(of_rule(by, rule), (0, 1, by - 1, 1))
            self.assertEqual(rule_of(by, (0, 1, by - 1, 1)), rule)


class KeepsTest(unittest.TestCase):
    def wished(self, row, poly):
        """The document's sums, far beyond the first places."""
        count = len(row[1]) + 30
        found = step_by_step(row, count + len(poly))
        sums = [sum(poly[k] * found[n + k] for k in range(len(poly))) for n in range(count)]
        return all(rest(row[0], one) == 0 for one in sums)

    def rule_poly(self, row):
        return tuple(rest(row[0], -number) for number in reversed(row[1])) + (1,)

    def test_the_polynomial_of_the_rule_and_its_multiples(self):
        chance = random.Random(25)
        for row in some_rows():
            poly = self.rule_poly(row)
            self.assertIs(keeps(row, poly), True)
            for length in range(6):
                self.assertIs(keeps(row, product(row[0], poly, some_poly(chance, row[0], length))), True)

    def test_told_ones(self):
        self.assertIs(keeps((0, (1, 1), (0, 1)), (-1, -1, 1)), True)
        self.assertIs(keeps((0, (1, 1), (0, 1)), (-1, 1, 1)), False)
        self.assertIs(keeps((0, (1, 1), (0, 1)), (1, 0, -2, 1)), True)
        self.assertIs(keeps((0, (1, 1), (0, 1)), (1, 0, -2, -1, 1)), False)
        self.assertIs(keeps((0, (1, 1), (0, 1)), (1, 0, -2, 0, 1)), False)
        self.assertIs(keeps((0, (1, 1), (0, 1)), (1, 0, -3, 0, 1)), True)
        self.assertIs(keeps((5, (1, 1), (0, 1)), (4, 0, 0, 0, 1)), False)
        self.assertIs(keeps((2, (1, 1), (0, 1)), (1, 0, 0, 1)), True)

    def test_nothing_keeps_every_row(self):
        for row in some_rows():
            self.assertIs(keeps(row, ()), True)

    def test_of_the_length_0_all_keep(self):
        chance = random.Random(26)
        for by in BYS:
            for length in range(41):
                self.assertIs(keeps((by, (), ()), some_poly(chance, by, length)), True)

    def test_rows_of_noughts(self):
        chance = random.Random(27)
        for by in BYS:
            for length in range(13):
                row = (by, some_row(chance, by, length)[1], (0,) * length)
                self.assertIs(keeps(row, some_poly(chance, by, 4)), True)

    def test_what_fails_only_at_the_last_place_below_the_length(self):
        for by in BYS:
            for length in range(1, 13):
                row = (by, (0,) * length, (0,) * (length - 1) + (1,))
                self.assertIs(keeps(row, (1,)), False)
                self.assertIs(keeps(row, (1, 1)), False)
                for power in range(20):
                    self.assertIs(keeps(row, (0,) * power + (1,)), power >= length)

    def test_a_number_other_by_one(self):
        for row in some_rows():
            by, rule, starts = row
            if any(step_by_step(row, len(rule))):
                poly = self.rule_poly(row)
                for k in range(len(poly)):
                    other = list(poly)
                    other[k] = rest(by, other[k] + 1)
                    while other and other[-1] == 0:
                        other.pop()
                    self.assertIs(keeps(row, tuple(other)), self.wished(row, tuple(other)))

    def test_all_small_ones_against_the_document(self):
        for by, length in [(2, 1), (2, 2), (2, 3), (3, 1), (3, 2)]:
            polys = all_polys(by, 4)
            for rule in itertools.product(range(by), repeat=length):
                for starts in itertools.product(range(by), repeat=length):
                    for poly in polys:
                        row = (by, rule, starts)
                        self.assertIs(keeps(row, poly), self.wished(row, poly), (row, poly))

    def test_polynomials_longer_than_the_row(self):
        chance = random.Random(28)
        for by in BYS:
            for length in [1, 2, 3]:
                row = some_row(chance, by, length, 9)
                for long in [10, 40]:
                    poly = some_poly(chance, by, long, 9)
                    self.assertIs(keeps(row, poly), self.wished(row, poly))
                    poly = product(by, self.rule_poly(row), some_poly(chance, by, long - length, 9))
                    self.assertEqual(len(poly), long)
                    self.assertIs(keeps(row, poly), True)


class OwnTest(unittest.TestCase):
    def test_what_is_handed_in_stays_as_it_was_and_asked_again_the_same_is_told(self):
        chance = random.Random(29)
        for by in BYS:
            one, other = some_poly(chance, by, 7), some_monic(chance, by, 4)
            row = some_row(chance, by, 4)
            before = copy.deepcopy((one, other, row))
            told = []
            for turn in range(2):
                told.append([plus(by, one, other), times(by, one, other), divided(by, one, other), of_rule(by, row[1]),
                             rule_of(by, other), keeps(row, one), greatest(by, one, other) if by else None])
            self.assertEqual(told[0], told[1])
            self.assertEqual((one, other, row), before)


if __name__ == "__main__":
    unittest.main()
