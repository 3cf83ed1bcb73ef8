import copy
import itertools
import random
import unittest

from helper import (
    BYS, FIBONACCI, PRIMES, assert_refused, is_shortest, lengthened, product, rest, rule_of_poly, shortest_by_chance,
    small_rows, some_monic, some_numbers, some_row, some_rows, step_by_step,
)
from nextbyrule.errors import NoBy, TooFar, TooLong
from nextbyrule.mixes import added, every, multiplied, put_ahead, rolled, scaled, summed
from nextbyrule.rows import is_row
from nextbyrule.shortest import shortest

# More than the two lengths of any two rows together, so that rows agreeing at as many places agree at all.
MANY = 40


def added_place(ours, theirs, n):
    return ours[n] + theirs[n]


def multiplied_place(ours, theirs, n):
    return ours[n] * theirs[n]


def rolled_place(ours, theirs, n):
    return sum(ours[i] * theirs[n - i] for i in range(n + 1))


PAIRS = [
    (added, added_place, lambda d, e: d + e),
    (multiplied, multiplied_place, lambda d, e: d * e),
    (rolled, rolled_place, lambda d, e: d + e),
]


class MixTest(unittest.TestCase):
    def assert_told(self, told, by, places, most):
        self.assertIs(is_row(told), True)
        self.assertEqual(told[0], by)
        self.assertTrue(step_by_step(told, len(places)) == [rest(by, place) for place in places])
        self.assertTrue(is_shortest(told), told)
        self.assertLessEqual(len(told[1]), most)

    def check_pair(self, mix, one, other):
        call, place, most = mix
        length = most(len(shortest(one)[1]), len(shortest(other)[1]))
        if length > 12:
            assert_refused(self, TooLong, call, one, other)
            return None
        ours, theirs = step_by_step(one, MANY), step_by_step(other, MANY)
        told = call(one, other)
        self.assert_told(told, one[0], [place(ours, theirs, n) for n in range(MANY)], length)
        self.assertEqual(call(other, one), told)
        return told

    def check_one(self, call, row, places, most):
        if most > 12:
            assert_refused(self, TooLong, call, row)
            return None
        told = call(row)
        self.assert_told(told, row[0], places, most)
        return told


class PairTest(MixTest):
    def test_told_ones(self):
        doubled = (0, (2,), (1,))
        tripled = (0, (3,), (1,))
        self.assertEqual(added(doubled, tripled), (0, (5, -6), (2, 5)))
        self.assertEqual(multiplied(doubled, tripled), (0, (6,), (1,)))
        self.assertEqual(rolled(doubled, tripled), (0, (5, -6), (1, 5)))
        self.assertEqual(added(FIBONACCI, (0, (1, 1), (2, 1))), (0, (1, 1), (2, 2)))
        self.assertEqual(multiplied(FIBONACCI, FIBONACCI), (0, (2, 2, -1), (0, 1, 1)))
        self.assertEqual(rolled(FIBONACCI, FIBONACCI), (0, (2, 1, -2, -1), (0, 0, 1, 2)))
        self.assertEqual(added((7, (2,), (1,)), (7, (2,), (6,))), (7, (), ()))
        self.assertEqual(multiplied((2, (1,), (1,)), (2, (0, 1), (1, 0))), (2, (0, 1), (1, 0)))
        self.assertEqual(multiplied((0, (0, 1), (1, 0)), (0, (0, 1), (0, 1))), (0, (), ()))
        self.assertEqual(rolled((0, (1,), (1,)), (0, (1,), (1,))), (0, (2, -1), (1, 2)))

    def test_of_each_length(self):
        chance = random.Random(160)
        for by in [0, 2, 7, 997]:
            rows = [shortest_by_chance(chance, by, length, 5) for length in range(13)]
            for mix in PAIRS:
                for one, other in itertools.product(rows, rows):
                    told = self.check_pair(mix, one, other)
                    most = mix[2](len(one[1]), len(other[1]))
                    self.assertEqual(told is None, most > 12)

    def test_by_chance(self):
        chance = random.Random(161)
        for by in BYS:
            for turn in range(60):
                one = some_row(chance, by, chance.randrange(8), 2)
                other = some_row(chance, by, chance.randrange(6), 2)
                for mix in PAIRS:
                    self.check_pair(mix, one, other)

    def test_rules_that_share_a_part(self):
        chance = random.Random(162)
        for by in BYS:
            for length in range(1, 7):
                row = some_row(chance, by, length, 3)
                same_rule = (by, row[1], tuple(some_numbers(chance, by, length, 3)))
                for mix in PAIRS:
                    self.check_pair(mix, row, row)
                    self.check_pair(mix, row, same_rule)

    def test_repeated_roots(self):
        for by in [0, 2, 3, 5]:
            poly = (1,)
            rows = []
            for length in range(1, 5):
                poly = product(by, poly, (rest(by, -1), 1))
                rows.append((by, rule_of_poly(by, poly), (0,) * (length - 1) + (1,)))
                # Noughts for roots: what is behind the starts is 0.
                rows.append((by, (0,) * length, (1,) * length))
            for mix in PAIRS:
                for one, other in itertools.product(rows, rows):
                    self.check_pair(mix, one, other)

    def test_all_small_ones(self):
        for by, lengths in [(2, [0, 1, 2]), (3, [0, 1])]:
            rows = small_rows(by, lengths)
            for mix in PAIRS:
                for one, other in itertools.product(rows, rows):
                    self.check_pair(mix, one, other)

    def test_by_every_prime(self):
        chance = random.Random(163)
        for by in PRIMES:
            for mix in PAIRS:
                self.check_pair(mix, some_row(chance, by, 3), some_row(chance, by, 4))

    def test_rows_of_the_length_0(self):
        chance = random.Random(164)
        for by in BYS:
            none = (by, (), ())
            for length in range(13):
                row = some_row(chance, by, length)
                self.assertEqual(added(none, row), shortest(row))
                self.assertEqual(added(row, none), shortest(row))
                for call in [multiplied, rolled]:
                    self.assertEqual(call(none, row), none)
                    self.assertEqual(call(row, none), none)

    def test_too_long_though_the_row_would_be_shorter(self):
        chance = random.Random(165)
        for by in BYS:
            row = shortest_by_chance(chance, by, 7)
            less = (by, row[1], tuple(rest(by, -start) for start in row[2]))
            assert_refused(self, TooLong, added, row, less)
            assert_refused(self, TooLong, added, row, row)
            # 0 from the eighth place on, as the product would be, too.
            ended = (by, (0,) * 7, (1,) * 7)
            assert_refused(self, TooLong, multiplied, ended, (by, (0, 1), (1, 0)))
            assert_refused(self, TooLong, multiplied, (by, (0, 1), (1, 0)), ended)
            # Rolled with 1 and noughts a row stays as it is.
            assert_refused(self, TooLong, rolled, shortest_by_chance(chance, by, 12), (by, (0,), (1,)))

    def test_rules_longer_than_they_need_be(self):
        chance = random.Random(166)
        for by in BYS:
            for length, other_length in [(6, 6), (5, 7), (1, 11), (3, 4), (2, 6), (1, 12), (0, 12)]:
                one = shortest_by_chance(chance, by, length)
                other = shortest_by_chance(chance, by, other_length)
                longer = lengthened(one, some_monic(chance, by, 12 - length, 5))
                long = lengthened(other, some_monic(chance, by, 12 - other_length, 5))
                for mix in PAIRS:
                    told = self.check_pair(mix, longer, long)
                    self.assertEqual(told is None, mix[2](length, other_length) > 12)
                    if told is not None:
                        self.assertEqual(told, mix[0](one, other))

    def test_unlike_bys(self):
        chance = random.Random(167)
        for by, other_by in itertools.permutations(BYS, 2):
            for length, other_length in [(0, 0), (0, 12), (2, 3), (12, 12), (7, 6)]:
                one = shortest_by_chance(chance, by, length)
                other = shortest_by_chance(chance, other_by, other_length)
                for mix in PAIRS:
                    # Ahead of TooLong, too.
                    assert_refused(self, NoBy, mix[0], one, other)

    def test_numbers_of_many_figures(self):
        chance = random.Random(168)
        great = 10 ** 200 - 1
        for mix in PAIRS:
            for length, other_length in [(3, 4), (6, 2), (2, 6)]:
                self.check_pair(mix, some_row(chance, 0, length, great), some_row(chance, 0, other_length, great))
            row = some_row(chance, 0, 3, great)
            self.check_pair(mix, row, row)

    def test_numbers_that_were_told(self):
        chance = random.Random(169)
        row = some_row(chance, 0, 3, 10 ** 40)
        far = (0, row[1], tuple(step_by_step(row, 203)[200:]))
        farther = (0, row[1], tuple(step_by_step(row, 303)[300:]))
        for mix in PAIRS:
            self.check_pair(mix, far, farther)


class ScaledTest(MixTest):
    def test_told_ones(self):
        self.assertEqual(scaled(FIBONACCI, 3), (0, (1, 1), (0, 3)))
        self.assertEqual(scaled(FIBONACCI, -1), (0, (1, 1), (0, -1)))
        self.assertEqual(scaled(FIBONACCI, 0), (0, (), ()))
        self.assertEqual(scaled((7, (1, 1), (2, 3)), 4), (7, (1, 1), (1, 5)))
        self.assertEqual(scaled((0, (2, 0, -1), (0, 1, 1)), 2), (0, (1, 1), (0, 2)))

    def test_of_each_length(self):
        for row in some_rows():
            by = row[0]
            places = step_by_step(row, MANY)
            numbers = range(by) if 0 < by < 10 else [0, 1, 2, by // 2, by - 1] if by else [0, 1, -1, 2, -5, 10 ** 60]
            for number in numbers:
                told = scaled(row, number)
                self.assert_told(told, by, [number * place for place in places], len(shortest(row)[1]))
                self.assertEqual(told[1], shortest(row)[1] if number else ())


class SummedTest(MixTest):
    def check(self, row):
        places = step_by_step(row, MANY)
        sums = [sum(places[:n + 1]) for n in range(MANY)]
        return self.check_one(summed, row, sums, len(shortest(row)[1]) + 1)

    def test_told_ones(self):
        self.assertEqual(summed(FIBONACCI), (0, (2, 0, -1), (0, 1, 2)))
        self.assertEqual(summed((0, (), ())), (0, (), ()))
        self.assertEqual(summed((0, (1,), (1,))), (0, (2, -1), (1, 2)))
        self.assertEqual(summed((0, (0,), (5,))), (0, (1,), (5,)))
        self.assertEqual(summed((0, (-1,), (1,))), (0, (0, 1), (1, 0)))
        self.assertEqual(summed((2, (1,), (1,))), (2, (0, 1), (1, 0)))

    def test_of_each_length(self):
        chance = random.Random(170)
        for by in BYS:
            for length in range(13):
                self.check(some_row(chance, by, length))
                told = self.check(shortest_by_chance(chance, by, length))
                self.assertEqual(told is None, length == 12)
                if length < 12:
                    row = shortest_by_chance(chance, by, length)
                    longer = lengthened(row, some_monic(chance, by, 12 - length, 5))
                    self.assertEqual(self.check(longer), summed(row))

    def test_all_small_ones(self):
        for row in small_rows(2, [0, 1, 2, 3]) + small_rows(3, [0, 1, 2]):
            self.check(row)

    def test_too_long_though_the_row_would_be_shorter(self):
        for by in BYS:
            # Its sums are 0, and 1 from the twelfth place on: a row of the length 12.
            ended = (by, (0,) * 12, (0,) * 11 + (1,))
            sums = (by, (1,) + (0,) * 11, (0,) * 11 + (1,))
            self.assertTrue(is_shortest(ended) and is_shortest(sums))
            assert_refused(self, TooLong, summed, ended)
        chance = random.Random(171)
        for by in PRIMES:
            assert_refused(self, TooLong, summed, shortest_by_chance(chance, by, 12))


class EveryTest(MixTest):
    def check(self, row, start, step):
        places = step_by_step(row, start + step * MANY)[start::step][:MANY]
        told = every(row, start, step)
        self.assert_told(told, row[0], places, len(shortest(row)[1]))
        return told

    def test_told_ones(self):
        self.assertEqual(every(FIBONACCI, 0, 2), (0, (3, -1), (0, 1)))
        self.assertEqual(every(FIBONACCI, 1, 2), (0, (3, -1), (1, 2)))
        self.assertEqual(every(FIBONACCI, 0, 1), FIBONACCI)
        self.assertEqual(every(FIBONACCI, 5, 1), (0, (1, 1), (5, 8)))
        self.assertEqual(every(FIBONACCI, 100, 10)[1], (123, -1))
        self.assertEqual(every((0, (0, 1), (3, 4)), 1, 2), (0, (1,), (4,)))
        self.assertEqual(every((0, (0, 1), (0, 4)), 0, 2), (0, (), ()))
        self.assertEqual(every((7, (3,), (1,)), 0, 6), (7, (1,), (1,)))
        self.assertEqual(every((0, (0, 0, 0), (1, 2, 3)), 1, 1), (0, (0, 0), (2, 3)))
        self.assertEqual(every((0, (), ()), 100, 10), (0, (), ()))

    def test_of_each_length(self):
        chance = random.Random(172)
        for by in BYS:
            for length in range(13):
                for step in range(1, 11):
                    self.check(some_row(chance, by, length, 2), chance.randrange(101), step)

    def test_starts(self):
        chance = random.Random(173)
        for by in [0, 2, 7]:
            row = some_row(chance, by, 4, 2)
            for start in range(101):
                self.check(row, start, 3)

    def test_all_small_ones(self):
        for row in small_rows(2, [0, 1, 2, 3]) + small_rows(3, [0, 1, 2]):
            for start, step in [(0, 1), (0, 2), (1, 2), (2, 3), (0, 6), (3, 10)]:
                self.check(row, start, step)

    def test_rules_longer_than_they_need_be(self):
        chance = random.Random(174)
        for by in BYS:
            row = shortest_by_chance(chance, by, 4)
            longer = lengthened(row, some_monic(chance, by, 8, 5))
            self.assertEqual(self.check(longer, 7, 3), every(row, 7, 3))

    def test_roots_that_fall_together(self):
        # In steps of 2 a row of even places alone is shorter; in steps of 3 it isn't.
        chance = random.Random(175)
        for by in BYS:
            rule = tuple(number if k % 2 else 0 for k, number in enumerate(some_numbers(chance, by, 12, 9)))
            row = (by, rule, tuple(some_numbers(chance, by, 12, 9)))
            for step in [2, 3, 4, 6, 10]:
                told = self.check(row, 1, step)
                self.assertTrue(step % 2 == 1 or len(told[1]) <= 6)

    def test_too_far(self):
        chance = random.Random(176)
        for by in BYS:
            for length in [0, 1, 5, 12]:
                row = some_row(chance, by, length)
                for start in [-1, -2, 101, 102, 300, -10 ** 60, 10 ** 60]:
                    for step in [1, 10, 0, 11]:
                        assert_refused(self, TooFar, every, row, start, step)
                for step in [0, -1, 11, 12, -10 ** 60, 10 ** 60]:
                    for start in [0, 50, 100]:
                        assert_refused(self, TooFar, every, row, start, step)
                for start, step in [(0, 1), (100, 1), (0, 10), (100, 10)]:
                    self.assertIs(is_row(every(row, start, step)), True)

    def test_numbers_of_many_figures(self):
        chance = random.Random(177)
        row = some_row(chance, 0, 3, 10 ** 200 - 1)
        self.check(row, 3, 2)
        told = every(some_row(chance, 0, 12, 10 ** 200 - 1), 100, 10)
        self.assertEqual(len(told[1]), 12)


class PutAheadTest(MixTest):
    def check(self, row, numbers):
        before = list(numbers)
        most = len(shortest(row)[1]) + len(numbers)
        told = self.check_one(lambda one: put_ahead(one, numbers), row, numbers + step_by_step(row, MANY), most)
        self.assertEqual(numbers, before)
        return told

    def test_told_ones(self):
        self.assertEqual(put_ahead(FIBONACCI, [5]), (0, (1, 1, 0), (5, 0, 1)))
        self.assertEqual(put_ahead(FIBONACCI, [1]), (0, (1, 1), (1, 0)))
        self.assertEqual(put_ahead(FIBONACCI, [2, -1, 1]), (0, (1, 1), (2, -1)))
        self.assertEqual(put_ahead(FIBONACCI, []), FIBONACCI)
        self.assertEqual(put_ahead((0, (), ()), [0, 7, 0]), (0, (0, 0), (0, 7)))
        self.assertEqual(put_ahead((7, (3,), (1,)), [5]), (7, (3,), (5,)))
        self.assertEqual(put_ahead((7, (3,), (1,)), [4]), (7, (3, 0), (4, 1)))

    def test_of_each_length(self):
        chance = random.Random(178)
        for by in BYS:
            for length in range(13):
                row = shortest_by_chance(chance, by, length)
                for count in range(15):
                    told = self.check(row, some_numbers(chance, by, count, 9))
                    self.assertEqual(told is None, length + count > 12)
                    self.check(row, [0] * count)

    def test_all_small_ones(self):
        for row in small_rows(2, [0, 1, 2]):
            for count in range(4):
                for numbers in itertools.product(range(2), repeat=count):
                    self.check(row, list(numbers))

    def test_none_and_twelve(self):
        chance = random.Random(179)
        for row in some_rows():
            self.assertEqual(self.check(row, []), shortest(row))
        for by in BYS:
            numbers = some_numbers(chance, by, 11) + [1]
            self.assertEqual(self.check((by, (), ()), numbers), (by, (0,) * 12, tuple(numbers)))
            self.assertEqual(self.check((by, (1,) * 12, (0,) * 12), numbers), (by, (0,) * 12, tuple(numbers)))
            self.assertIsNone(self.check((by, (1,), (1,)), numbers))
            self.assertIsNone(self.check((by, (), ()), numbers + [1]))

    def test_too_long_though_the_row_would_be_shorter(self):
        chance = random.Random(180)
        for by in BYS:
            row = shortest_by_chance(chance, by, 12)
            rule = row[1][:11] + (1,)
            whole = (by, rule, tuple(step_by_step((by, rule, row[2]), 13)[1:]))
            assert_refused(self, TooLong, put_ahead, whole, [row[2][0]])
            assert_refused(self, TooLong, put_ahead, (by, (), ()), [0] * 13)
            assert_refused(self, TooLong, put_ahead, (by, (1,), (1,)), [1] * 12)

    def test_rules_longer_than_they_need_be(self):
        chance = random.Random(181)
        for by in BYS:
            row = shortest_by_chance(chance, by, 4)
            longer = lengthened(row, some_monic(chance, by, 8, 5))
            numbers = some_numbers(chance, by, 8)
            self.assertEqual(self.check(longer, numbers), put_ahead(row, numbers))
            self.assertIsNone(self.check(longer, numbers + [1]))


class OwnTest(unittest.TestCase):
    def test_what_is_handed_in_stays_as_it_was(self):
        chance = random.Random(182)
        for by in BYS:
            one, other = some_row(chance, by, 3), some_row(chance, by, 4)
            numbers = some_numbers(chance, by, 5)
            calls = [(mix[0], one, other) for mix in PAIRS]
            calls += [(scaled, one, numbers[0]), (summed, one), (every, one, 3, 2), (put_ahead, one, numbers)]
            before = copy.deepcopy([one, other, numbers])
            for call, *things in calls:
                kept = copy.deepcopy(things)
                told = call(*things)
                self.assertEqual(call(*kept), told)
                self.assertEqual(call(*things), told)
            self.assertEqual([one, other, numbers], before)
            # The list is the asker's own: what is done to it later changes nothing that was told.
            told = put_ahead(one, numbers)
            kept = copy.deepcopy(told)
            numbers.clear()
            self.assertEqual(told, kept)


if __name__ == "__main__":
    unittest.main()
