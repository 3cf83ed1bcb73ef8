import copy
import itertools
import math
import random
import unittest

from helper import (
    FIBONACCI, PRIMES, assert_refused, form_at, lengthened, poly_of, product, rule_of_poly, some_monic, some_numbers,
    some_row, some_rows, step_by_step,
)
from nextbyrule.errors import NoBy, TooBig
from nextbyrule.roots import closed, whole_roots
from nextbyrule.shortest import shortest

BOUND = 10 ** 6

# Monic ones without a whole root.
ROOTLESS = [(1,), (1, 0, 1), (-2, 0, 1), (1, 1, 1), (2, 0, 0, 1), (-1, -1, 1), (5, 0, 1), (4, 0, 0, 0, 1), (3, 1, 1)]


def product_of(roots):
    """The polynomial of pairs (root, times)."""
    poly = (1,)
    for root, times in roots:
        for turn in range(times):
            poly = product(0, poly, (-root, 1))
    return poly


def value_at(poly, number):
    return sum(factor * number ** k for k, factor in enumerate(poly))


def pairs_of(numbers):
    return [(number, numbers.count(number)) for number in sorted(set(numbers))]


def lets_in(poly):
    return all(abs(number) < BOUND for number in poly)


class WholeRootsTest(unittest.TestCase):
    def check(self, poly):
        told = whole_roots(poly)
        self.assertIs(type(told), tuple)
        roots, left = told
        self.assertIs(type(roots), list)
        self.assertIs(type(left), tuple)
        for pair in roots:
            self.assertIs(type(pair), tuple)
            self.assertTrue(type(pair[0]) is int and type(pair[1]) is int and pair[1] >= 1)
        self.assertEqual([root for root, times in roots], sorted({root for root, times in roots}))
        self.assertEqual(product(0, product_of(roots), left), poly)
        self.assertEqual(left[-1], 1)
        # No root is farther from 0 than 1 and the greatest of the numbers; of great ones some are tried.
        reach = min(1 + max(abs(number) for number in poly), 2000)
        self.assertTrue(all(value_at(left, number) != 0 for number in range(-reach, reach + 1)))
        return told

    def test_told_ones(self):
        self.assertEqual(whole_roots((1,)), ([], (1,)))
        self.assertEqual(whole_roots((0, 1)), ([(0, 1)], (1,)))
        self.assertEqual(whole_roots((0, 0, 0, 1)), ([(0, 3)], (1,)))
        self.assertEqual(whole_roots((-3, 1)), ([(3, 1)], (1,)))
        self.assertEqual(whole_roots((3, 1)), ([(-3, 1)], (1,)))
        self.assertEqual(whole_roots((-6, 11, -6, 1)), ([(1, 1), (2, 1), (3, 1)], (1,)))
        self.assertEqual(whole_roots((4, 4, 1)), ([(-2, 2)], (1,)))
        self.assertEqual(whole_roots((-3, -2, 1)), ([(-1, 1), (3, 1)], (1,)))
        self.assertEqual(whole_roots((0, 0, -1, 0, 1)), ([(-1, 1), (0, 2), (1, 1)], (1,)))
        self.assertEqual(whole_roots((-1, 1, -1, 1)), ([(1, 1)], (1, 0, 1)))

    def test_none_at_all(self):
        for poly in ROOTLESS:
            self.assertEqual(whole_roots(poly), ([], poly))
        self.assertEqual(whole_roots(product(0, (1, 0, 1), (1, 0, 1))), ([], (1, 0, 2, 0, 1)))

    def test_all_with_small_numbers(self):
        for degree, great in [(1, 12), (2, 12), (3, 4), (4, 2)]:
            for numbers in itertools.product(range(-great, great + 1), repeat=degree):
                self.check(numbers + (1,))

    def test_known_roots(self):
        chance = random.Random(320)
        for turn in range(400):
            roots = pairs_of(some_numbers(chance, 0, chance.randint(0, 7), chance.choice([1, 2, 5, 12])))
            left = chance.choice(ROOTLESS)
            poly = product(0, product_of(roots), left)
            if lets_in(poly):
                self.assertEqual(whole_roots(poly), (roots, left))
                self.check(poly)
            else:
                assert_refused(self, TooBig, whole_roots, poly)

    def test_great_roots(self):
        for root in [999999, 999983, 720720, 500000, 1001, 1000, 999]:
            for sign in [root, -root]:
                self.assertEqual(whole_roots((-sign, 1)), ([(sign, 1)], (1,)))
                self.assertEqual(whole_roots((0, -sign, 1)), (sorted([(0, 1), (sign, 1)]), (1,)))
                self.assertEqual(whole_roots((0,) * 38 + (-sign, 1)), (sorted([(0, 38), (sign, 1)]), (1,)))
        self.assertEqual(whole_roots((999999, -2000, 1)), ([(999, 1), (1001, 1)], (1,)))
        self.assertEqual(whole_roots((999999, 2000, 1)), ([(-1001, 1), (-999, 1)], (1,)))
        self.assertEqual(whole_roots((-999999, 2, 1)), ([(-1001, 1), (999, 1)], (1,)))
        self.assertEqual(whole_roots((998001, -1998, 1)), ([(999, 2)], (1,)))
        self.assertEqual(whole_roots((499999, -500000, 1)), ([(1, 1), (499999, 1)], (1,)))

    def test_each_divisor_of_the_lowest_number(self):
        for lowest in [720720, 999999, 960400, 1024, 997 * 991]:
            for root in [d for d in range(1, lowest + 1) if lowest % d == 0]:
                one, other = sorted([root, -(lowest // root)])
                poly = product(0, (-one, 1), (-other, 1))
                self.assertEqual(whole_roots(poly), ([(one, 1), (other, 1)], (1,)))

    def test_long_ones(self):
        self.assertEqual(whole_roots((0,) * 39 + (1,)), ([(0, 39)], (1,)))
        self.assertEqual(whole_roots((-1,) + (0,) * 38 + (1,)), ([(1, 1)], (1,) * 39))
        self.assertEqual(whole_roots((1,) + (0,) * 38 + (1,)), ([(-1, 1)], (1, -1) * 19 + (1,)))
        # (x + 1) ** 20 has numbers up to 184756.
        self.assertEqual(whole_roots(product_of([(-1, 20)])), ([(-1, 20)], (1,)))
        self.check(tuple([-999999, 999999] * 19 + [999999, 1]))

    def test_a_rest_with_greater_numbers(self):
        left = (900007, 1800001, 900001, 1)
        poly = product(0, left, (-1, 1))
        self.assertTrue(lets_in(poly))
        self.assertEqual(whole_roots(poly), ([(1, 1)], left))

    def test_numbers_too_great(self):
        for length in [1, 2, 3, 12, 39]:
            for at in range(length):
                for sign in [1, -1]:
                    numbers = [0] * length + [1]
                    numbers[at] = sign * (BOUND - 1)
                    whole_roots(tuple(numbers))
                    for great in [BOUND, BOUND + 1, 10 ** 9, 10 ** 4000]:
                        numbers[at] = sign * great
                        assert_refused(self, TooBig, whole_roots, tuple(numbers))


class ClosedTest(unittest.TestCase):
    def check(self, row):
        """What is told is a form of the row with the least bottom, by the roots of its least polynomial."""
        least = poly_of(shortest(row))
        told = closed(row)
        self.assertIs(type(told), tuple)
        bottom, parts = told
        self.assertTrue(type(bottom) is int and bottom >= 1)
        self.assertIs(type(parts), list)
        for root, tops in parts:
            self.assertTrue(type(root) is int and root != 0)
            self.assertIs(type(tops), list)
            self.assertTrue(all(type(top) is int for top in tops))
        self.assertEqual([root for root, tops in parts], sorted({root for root, tops in parts}))
        self.assertEqual(product_of([(root, len(tops)) for root, tops in parts]), least)
        # One form alone gives the places: so the bottom is the least where nothing divides it and all tops.
        self.assertEqual(math.gcd(bottom, *[top for root, tops in parts for top in tops]), 1)
        found = step_by_step(row, 30)
        for n in range(30):
            self.assertEqual(bottom * found[n], form_at(parts, n))
        return told

    def test_told_ones(self):
        self.assertEqual(closed((0, (2,), (5,))), (1, [(2, [5])]))
        self.assertEqual(closed((0, (2, 3), (1, 1))), (2, [(-1, [1]), (3, [1])]))
        self.assertEqual(closed((0, (2, -1), (0, 1))), (1, [(1, [0, 1])]))
        self.assertEqual(closed((0, (6, -9), (0, 3))), (1, [(3, [0, 1])]))
        self.assertEqual(closed((0, (3, -3, 1), (0, 1, 3))), (2, [(1, [0, 1, 1])]))
        self.assertEqual(closed((0, (5, -6), (0, 1))), (1, [(2, [-1]), (3, [1])]))
        self.assertEqual(closed((0, (0, 1), (1, 0))), (2, [(-1, [1]), (1, [1])]))
        self.assertEqual(closed((0, (5, -3, -9), (0, 0, 1))), (48, [(-1, [3]), (3, [-3, 4])]))

    def test_of_the_length_0(self):
        for length in range(13):
            self.assertEqual(closed((0, (7,) * length, (0,) * length)), (1, []))
            self.assertEqual(closed((0, (10 ** 9,) * length, (0,) * length)), (1, []))

    def test_one_root(self):
        for root in [1, -1, 2, -2, 3, 10, -999999, 999999]:
            for start in [1, -1, 6, 10 ** 150]:
                self.assertEqual(closed((0, (root,), (start,))), (1, [(root, [start])]))

    def test_roots_by_chance(self):
        chance = random.Random(330)
        bottoms = []
        for turn in range(300):
            roots = [root for root in some_numbers(chance, 0, chance.randint(0, 6), chance.choice([2, 4, 9])) if root]
            rule = rule_of_poly(0, product_of(pairs_of(roots)))
            row = (0, rule, tuple(some_numbers(chance, 0, len(rule), chance.choice([1, 9, 10 ** 60]))))
            if lets_in(poly_of(shortest(row))):
                bottoms.append(self.check(row)[0])
        self.assertIn(1, bottoms)
        self.assertGreater(len(set(bottoms)), 20)

    def test_of_each_length(self):
        for length in range(1, 13):
            for root in [1, -1] if length > 7 else [1, -1, 2, -2]:
                rule = rule_of_poly(0, product_of([(root, length)]))
                self.check((0, rule, tuple(range(1, length + 1))))
                told = self.check((0, rule, (0,) * (length - 1) + (1,)))
                self.assertEqual(len(told[1][0][1]), length)
        self.check((0, rule_of_poly(0, product_of([(-1, 6), (1, 6)])), tuple(range(5, 17))))
        self.check((0, rule_of_poly(0, product_of([(-2, 2), (-1, 4), (1, 4), (2, 2)])), (0,) * 11 + (1,)))

    def test_starts_of_many_figures(self):
        rule = rule_of_poly(0, product_of([(-1, 3), (1, 4), (2, 2)]))
        self.check((0, rule, tuple(some_numbers(random.Random(331), 0, 9, 10 ** 200 - 1))))
        # Numbers that the program told may be of any size.
        self.check((0, rule, tuple(some_numbers(random.Random(332), 0, 9, 10 ** 9000))))

    def test_forms_given(self):
        chance = random.Random(333)
        for turn in range(200):
            roots = sorted(set(chance.choices([-5, -3, -2, -1, 1, 2, 3, 4], k=chance.randint(1, 3))))
            parts = []
            for root in roots:
                tops = some_numbers(chance, 0, chance.randint(1, 2), 9)
                parts.append((root, tops[:-1] + [tops[-1] or 1]))
            poly = product_of([(root, len(tops)) for root, tops in parts])
            starts = tuple(form_at(parts, n) for n in range(len(poly) - 1))
            self.assertEqual(closed((0, rule_of_poly(0, poly), starts)), (1, parts))

    def test_none_with_a_root_0(self):
        for row in [(0, (0,), (1,)), (0, (0, 0), (0, 5)), (0, (2, 0), (3, 1)), (0, (1, 0), (1, 2)),
                    (0, (2, 3, 0, 0), (1, 1, 1, 1)), (0, (999999, 0), (2, 1))]:
            self.assertIsNone(closed(row))
        # The rule's polynomial has the root 0, the least one doesn't.
        self.assertEqual(closed((0, (2, 0), (1, 2))), (1, [(2, [1])]))
        self.assertEqual(closed((0, (0, 0, 0), (0, 0, 0))), (1, []))

    def test_none_with_something_left(self):
        chance = random.Random(334)
        self.assertIsNone(closed(FIBONACCI))
        for left in ROOTLESS[1:]:
            for roots in [[], [(1, 1)], [(-2, 1), (3, 2)]]:
                poly = product(0, left, product_of(roots))
                row = (0, rule_of_poly(0, poly), (0,) * (len(poly) - 2) + (1,))
                self.assertEqual(poly_of(shortest(row)), poly)
                self.assertIsNone(closed(row))
        # What is left of the rule's polynomial is no matter where the least one doesn't have it.
        for left in ROOTLESS:
            self.check(lengthened((0, (5, -6), tuple(some_numbers(chance, 0, 2, 9))), left))

    def test_rules_longer_than_need_be(self):
        chance = random.Random(335)
        for turn in range(60):
            roots = chance.sample([-4, -3, -2, -1, 1, 2, 3, 5], k=chance.randint(0, 3))
            rule = rule_of_poly(0, product_of(pairs_of(roots)))
            row = (0, rule, tuple(some_numbers(chance, 0, len(rule), 9)))
            for great in [1, 10 ** 6, 10 ** 30]:
                longer = lengthened(row, some_monic(chance, 0, chance.randint(1, 12 - len(rule)), great))
                self.assertEqual(closed(longer), self.check(row))

    def test_numbers_too_great(self):
        for sign in [1, -1]:
            self.assertEqual(closed((0, (sign * (BOUND - 1),), (1,))), (1, [(sign * (BOUND - 1), [1])]))
            for great in [BOUND, BOUND + 1, 10 ** 199]:
                number = sign * great
                assert_refused(self, TooBig, closed, (0, (number,), (1,)))
                # Also where there would be a root 0, or something left.
                assert_refused(self, TooBig, closed, (0, (number, 0), (2, 1)))
                assert_refused(self, TooBig, closed, (0, (1, number), (0, 1)))
                assert_refused(self, TooBig, closed, (0, (0, 0, number), (0, 0, 1)))
                self.assertEqual(closed((0, (number,), (0,))), (1, []))
        # x ** 2 - 2000 x + 999999 is let in, x ** 2 - 2000 x + 10 ** 6 is not.
        self.check((0, (2000, -999999), (0, 1)))
        assert_refused(self, TooBig, closed, (0, (2000, -1000000), (0, 1)))

    def test_by_a_prime(self):
        for by in PRIMES:
            assert_refused(self, NoBy, closed, (by, (1,), (1,)))
            assert_refused(self, NoBy, closed, (by, (), ()))
        chance = random.Random(336)
        for length in range(13):
            assert_refused(self, NoBy, closed, some_row(chance, 7, length))


class OwnTest(unittest.TestCase):
    def test_nothing_handed_in_is_changed(self):
        for row in some_rows():
            before = copy.deepcopy(row)
            try:
                closed(row)
            except (NoBy, TooBig):
                pass
            self.assertEqual(row, before)

    def test_what_is_told_is_the_askers_own(self):
        row = (0, (2, 3), (1, 1))
        told = closed(row)
        told[1][0][1].append(7)
        told[1].pop()
        self.assertEqual(closed(row), (2, [(-1, [1]), (3, [1])]))
        pairs = whole_roots((-3, -2, 1))[0]
        pairs.clear()
        self.assertEqual(whole_roots((-3, -2, 1)), ([(-1, 1), (3, 1)], (1,)))


if __name__ == "__main__":
    unittest.main()
