import copy
import itertools
import random
import unittest

from helper import (
    BYS, FIBONACCI, PRIMES, assert_refused, is_shortest, lengthened, poly_of, product, rest, rule_of_poly, small_rows,
    some_monic, some_row, some_rows, step_by_step,
)
from nextbyrule.alike import common, parting
from nextbyrule.errors import NoBy
from nextbyrule.shortest import shortest
from nextbyrule.tables import solved


def first_difference(one, other):
    count = len(one[1]) + len(other[1]) + 5
    pairs = zip(step_by_step(one, count), step_by_step(other, count))
    return next((n for n, (ours, theirs) in enumerate(pairs) if ours != theirs), None)


def powers_row(by, roots):
    """At n the sum of the roots, each to the power n; by a rule as long as there are roots."""
    poly = (1,)
    for root in roots:
        poly = product(by, poly, (rest(by, -root), 1))
    starts = tuple(rest(by, sum(root ** n for root in roots)) for n in range(len(roots)))
    return (by, rule_of_poly(by, poly), starts)


def kept(row, poly):
    found = step_by_step(row, len(poly) + 30)
    sums = [sum(number * found[n + k] for k, number in enumerate(poly)) for n in range(30)]
    return all(rest(row[0], total) == 0 for total in sums)


class PartingTest(unittest.TestCase):
    def check(self, one, other):
        told = parting(one, other)
        self.assertEqual(told, first_difference(one, other))
        self.assertEqual(parting(other, one), told)
        if told is not None:
            self.assertIs(type(told), int)
            self.assertLess(told, len(one[1]) + len(other[1]))
        self.assertEqual(told is None, shortest(one) == shortest(other))
        return told

    def test_told_ones(self):
        self.assertIsNone(parting(FIBONACCI, (0, (2, 0, -1), (0, 1, 1))))
        self.assertEqual(parting(FIBONACCI, (0, (1, 1), (1, 1))), 0)
        self.assertEqual(parting(FIBONACCI, (0, (1, 1), (0, 2))), 1)
        self.assertEqual(parting(FIBONACCI, (0, (1, 1, 1), (0, 1, 1))), 4)
        self.assertEqual(parting((0, (1,), (1,)), (0, (2,), (1,))), 1)
        self.assertIsNone(parting((0, (), ()), (0, (5,), (0,))))
        self.assertEqual(parting((0, (), ()), (0, (5,), (1,))), 0)
        self.assertIsNone(parting((7, (3,), (1,)), (7, (3, 0), (1, 3))))

    def test_a_row_and_itself(self):
        for row in some_rows():
            self.assertIsNone(self.check(row, row))
            self.assertIsNone(self.check(row, copy.deepcopy(row)))

    def test_the_same_places_by_another_rule(self):
        chance = random.Random(150)
        for by in BYS:
            for length in range(9):
                row = some_row(chance, by, length, 20)
                for more in range(13 - length):
                    longer = lengthened(row, some_monic(chance, by, more, 20))
                    self.assertIsNone(self.check(row, longer))
                    other = lengthened(row, some_monic(chance, by, 4, 20))
                    self.assertIsNone(self.check(longer, other))

    def test_one_start_amiss(self):
        for row in some_rows():
            by, rule, starts = row
            for place in range(len(starts)):
                other = (by, rule, starts[:place] + (rest(by, starts[place] + 1),) + starts[place + 1:])
                self.assertEqual(self.check(row, other), place)

    def test_by_chance(self):
        chance = random.Random(151)
        for by in BYS:
            for turn in range(60):
                one = some_row(chance, by, chance.randrange(13), 2)
                other = some_row(chance, by, chance.randrange(13), 2)
                self.check(one, other)

    def test_all_small_ones(self):
        for by, lengths in [(2, [0, 1, 2, 3]), (3, [0, 1, 2])]:
            rows = small_rows(by, lengths)
            for one, other in itertools.product(rows, rows[:40]):
                self.check(one, other)

    def test_rows_that_part_at_the_last_place(self):
        # With p = q * more + 1, what has 1 over p * q for its sum is the difference of 1 over q and more over p:
        # its first place that isn't 0 is the last one below the length of both.
        chance = random.Random(152)
        for by in BYS:
            for short in range(1, 13):
                for gap in range(13 - short):
                    less = some_monic(chance, by, short, 9)
                    more = some_monic(chance, by, gap, 9)
                    great = product(by, less, more)
                    great = (rest(by, great[0] + 1),) + great[1:]
                    one = (by, rule_of_poly(by, less), (0,) * (short - 1) + (1,))
                    length = short + gap
                    plain = step_by_step((by, rule_of_poly(by, great), (0,) * (length - 1) + (1,)), 2 * length)
                    starts = [sum(more[j] * plain[n + j] for j in range(len(more))) for n in range(length)]
                    other = (by, rule_of_poly(by, great), tuple(rest(by, start) for start in starts))
                    self.assertEqual(self.check(one, other), short + length - 1)

    def test_rows_of_the_length_0(self):
        for by in [0] + PRIMES:
            none = (by, (), ())
            self.assertIsNone(parting(none, none))
            self.assertIsNone(self.check(none, (by, (1,) * 12, (0,) * 12)))
            self.assertEqual(self.check(none, (by, (1,) * 12, (0,) * 11 + (1,))), 11)

    def test_unlike_bys(self):
        for one in some_rows():
            for other in [(by, (), ()) for by in BYS] + [(by, (1, 1), (0, 1)) for by in BYS]:
                if one[0] != other[0]:
                    assert_refused(self, NoBy, parting, one, other)
                    assert_refused(self, NoBy, parting, other, one)

    def test_numbers_of_many_figures(self):
        row = some_row(random.Random(153), 0, 12, 10 ** 200 - 1)
        self.assertIsNone(parting(row, row))
        far = tuple(step_by_step(row, 312)[300:])
        self.assertIsNone(parting((0, row[1], far), (0, row[1], far)))
        self.assertEqual(parting((0, row[1], far), (0, row[1], far[:11] + (far[11] + 1,))), 11)


class CommonTest(unittest.TestCase):
    def check(self, one, other):
        by = one[0]
        told = common(one, other)
        self.assertIs(type(told), tuple)
        self.assertEqual(told[-1], 1)
        self.assertTrue(all(type(number) is int and number == rest(by, number) for number in told))
        self.assertTrue(kept(one, told) and kept(other, told), (one, other, told))
        self.assertEqual(common(other, one), told)
        degree = len(told) - 1
        self.assertLessEqual(degree, len(one[1]) + len(other[1]))
        if degree > 0:
            # A monic one of a lesser degree, with fractions even, doesn't keep both.
            lines, wished = [], []
            for row in [one, other]:
                found = step_by_step(row, len(row[1]) + degree)
                for n in range(len(row[1])):
                    lines.append(found[n:n + degree - 1])
                    wished.append(rest(by, -found[n + degree - 1]))
            self.assertEqual(solved(by, degree - 1, lines, wished)[0], "none")
        return told

    def test_told_ones(self):
        self.assertEqual(common(FIBONACCI, FIBONACCI), (-1, -1, 1))
        self.assertEqual(common(FIBONACCI, (0, (1, 1), (2, 1))), (-1, -1, 1))
        self.assertEqual(common((0, (2,), (1,)), (0, (3,), (5,))), (6, -5, 1))
        self.assertEqual(common((7, (2,), (1,)), (7, (3,), (5,))), (6, 2, 1))
        self.assertEqual(common((0, (), ()), (0, (), ())), (1,))
        self.assertEqual(common((0, (4,), (0,)), (0, (3,), (5,))), (-3, 1))
        self.assertEqual(common((0, (0,), (1,)), (0, (0, 0), (1, 1))), (0, 0, 1))

    def test_roots_shared_and_not(self):
        for by in [0, 23, 997]:
            for ours in [[], [1], [2, 3], [1, 2, 3, 4, 5], [3, 5, 7, 9, 11, 13], [0, 1], list(range(1, 13))]:
                for theirs in [[], [2], [3, 4], [4, 6, 8], [5, 4, 3, 2, 1], [0, 6], list(range(6, 18))]:
                    poly = (1,)
                    for root in sorted(set(ours) | set(theirs)):
                        poly = product(by, poly, (rest(by, -root), 1))
                    self.assertEqual(self.check(powers_row(by, ours), powers_row(by, theirs)), poly)

    def test_repeated_roots(self):
        for by in [0, 2, 3, 5, 7]:
            for ours, theirs in itertools.product(range(1, 13), [1, 2, 5, 12]):
                rows = []
                for often in [ours, theirs]:
                    poly = (1,)
                    for turn in range(often):
                        poly = product(by, poly, (rest(by, -1), 1))
                    rows.append((by, rule_of_poly(by, poly), (0,) * (often - 1) + (1,)))
                self.assertEqual(self.check(*rows), poly_of(rows[0] if ours > theirs else rows[1]))

    def test_a_row_and_itself(self):
        for row in some_rows():
            self.assertEqual(common(row, row), poly_of(shortest(row)))
            self.assertEqual(common(row, (row[0], (), ())), poly_of(shortest(row)))

    def test_rules_longer_than_they_need_be(self):
        chance = random.Random(154)
        for by in BYS:
            for length in range(9):
                row = some_row(chance, by, length, 9)
                one = lengthened(row, some_monic(chance, by, 4, 9))
                other = lengthened(row, some_monic(chance, by, 3, 9))
                self.assertEqual(self.check(one, other), poly_of(shortest(row)))

    def test_with_a_shared_part(self):
        # Two monic ones whose difference is 1 share nothing.
        chance = random.Random(155)
        for by in BYS:
            for degree in range(7):
                shared = some_monic(chance, by, degree, 9)
                ours = some_monic(chance, by, 5, 9)
                theirs = (rest(by, ours[0] + 1),) + ours[1:]
                polys = [product(by, shared, ours), product(by, shared, theirs)]
                rows = [(by, rule_of_poly(by, poly), (0,) * (len(poly) - 2) + (1,)) for poly in polys]
                self.assertTrue(all(is_shortest(row) for row in rows))
                self.assertEqual(self.check(*rows), product(by, polys[0], theirs))

    def test_by_chance(self):
        chance = random.Random(156)
        for by in BYS:
            for turn in range(20):
                self.check(some_row(chance, by, chance.randrange(13), 2), some_row(chance, by, chance.randrange(13), 2))

    def test_all_small_ones(self):
        for by, lengths in [(2, [0, 1, 2]), (3, [0, 1])]:
            rows = small_rows(by, lengths)
            for one, other in itertools.product(rows, rows):
                told = self.check(one, other)
                for lesser in range(len(told) - 1):
                    for numbers in itertools.product(range(by), repeat=lesser):
                        self.assertFalse(kept(one, numbers + (1,)) and kept(other, numbers + (1,)))

    def test_unlike_bys(self):
        for one in some_rows():
            for other in [(by, (), ()) for by in BYS] + [(by, (1, 1), (0, 1)) for by in BYS]:
                if one[0] != other[0]:
                    assert_refused(self, NoBy, common, one, other)
                    assert_refused(self, NoBy, common, other, one)

    def test_numbers_of_many_figures(self):
        chance = random.Random(157)
        shared = some_monic(chance, 0, 5, 10 ** 90)
        ours = some_monic(chance, 0, 5, 10 ** 90)
        theirs = (ours[0] + 1,) + ours[1:]
        polys = [product(0, shared, ours), product(0, shared, theirs)]
        rows = [(0, rule_of_poly(0, poly), (0,) * 9 + (1,)) for poly in polys]
        self.assertEqual(common(*rows), product(0, polys[0], theirs))
        far = [(0, row[1], tuple(step_by_step(row, 310)[300:])) for row in rows]
        self.assertTrue(common(*far) == product(0, polys[0], theirs))


class OwnTest(unittest.TestCase):
    def test_what_is_handed_in_stays_as_it_was(self):
        rows = some_rows()
        before = copy.deepcopy(rows)
        for one, other in zip(rows, rows[1:]):
            if one[0] == other[0]:
                self.assertEqual(parting(one, other), parting(copy.deepcopy(one), copy.deepcopy(other)))
                self.assertEqual(common(one, other), common(copy.deepcopy(one), copy.deepcopy(other)))
        self.assertEqual(rows, before)


if __name__ == "__main__":
    unittest.main()
