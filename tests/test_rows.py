import copy
import random
import unittest

from helper import BYS, FIBONACCI, NO_WHOLE_NUMBERS, PRIMES, assert_refused, some_row, some_rows, step_by_step
from nextbyrule.errors import TooFar
from nextbyrule.rows import is_row, places, window


class IsRowTest(unittest.TestCase):
    def assert_none(self, *things):
        for thing in things:
            self.assertIs(is_row(thing), False, thing)

    def test_rows_of_each_length(self):
        for row in some_rows():
            self.assertIs(is_row(row), True, row)

    def test_rows_by_every_prime(self):
        for by in PRIMES:
            self.assertIs(is_row((by, (by - 1, 0), (0, by - 1))), True)
            self.assert_none((by, (by, 0), (0, 0)), (by, (0, 0), (0, by)))

    def test_by_0_numbers_of_many_figures(self):
        self.assertIs(is_row((0, (10 ** 199, -10 ** 199), (-10 ** 200 + 1, 0))), True)

    def test_a_part_more_or_less(self):
        for row in some_rows():
            self.assert_none(row[:0], row[:1], row[:2], row[1:], row + ((),), row + (0,), (0,) + row, (row,))

    def test_a_list_in_the_place_of_a_tuple(self):
        for row in some_rows():
            by, rule, starts = row
            self.assert_none(list(row), (by, list(rule), starts), (by, rule, list(starts)))

    def test_a_by_that_is_none(self):
        for by in [4, 1, 6, 9, 961, -1, -2, -7, 1000, 1009, 7919, 10 ** 60, 2 ** 127 - 1] + NO_WHOLE_NUMBERS:
            self.assert_none((by, (), ()), (by, (0, 0), (0, 0)))

    def test_a_number_that_is_none_by_the_by(self):
        for by in [2, 3, 7, 997]:
            for amiss in [-1, by, by + 1, 10 ** 60, -10 ** 60]:
                self.assert_none((by, (amiss,), (0,)), (by, (0,), (amiss,)))
                self.assert_none((by, (1, amiss, 0), (0, 1, 1)), (by, (0, 1, 1), (1, 0, amiss)))

    def test_a_number_of_another_kind(self):
        for by in [0, 2, 997]:
            for amiss in NO_WHOLE_NUMBERS:
                self.assert_none((by, (amiss,), (0,)), (by, (0,), (amiss,)))
                self.assert_none((by, (1, 0, amiss), (0, 1, 1)), (by, (0, 1, 1), (amiss, 1, 0)))

    def test_a_rule_and_starts_of_unlike_length(self):
        for by in BYS:
            for one in range(13):
                for other in range(13):
                    self.assertIs(is_row((by, (1,) * one, (0,) * other)), one == other)

    def test_more_than_twelve(self):
        for by in BYS:
            for length in [13, 14, 300]:
                self.assert_none((by, (1,) * length, (0,) * length))
            self.assert_none((by, (1,) * 13, (0,) * 12), (by, (1,) * 12, (0,) * 13))

    def test_a_rule_or_starts_of_another_kind(self):
        for amiss in [0, 7] + [thing for thing in NO_WHOLE_NUMBERS if not isinstance(thing, tuple)]:
            self.assert_none((0, amiss, ()), (0, (), amiss), (0, amiss, (0,)), (0, (0,), amiss), (0, amiss, amiss))

    def test_things_of_other_kinds(self):
        self.assert_none(0, 7, -1, 10 ** 60, "1 1 | 0 1", "abc", [0, (), ()], {0: 0, 1: (), 2: ()})
        self.assert_none(*NO_WHOLE_NUMBERS)


class PlacesTest(unittest.TestCase):
    def test_told_ones(self):
        self.assertEqual(places(FIBONACCI, 10), [0, 1, 1, 2, 3, 5, 8, 13, 21, 34])
        self.assertEqual(places((7, (1, 1), (0, 1)), 10), [0, 1, 1, 2, 3, 5, 1, 6, 0, 6])
        self.assertEqual(places((0, (-2,), (3,)), 5), [3, -6, 12, -24, 48])

    def test_the_nearest_comes_first(self):
        self.assertEqual(places((0, (1, 10, 100), (1, 2, 3)), 6), [1, 2, 3, 123, 353, 1883])
        self.assertEqual(places((5, (2, 1, 3), (1, 2, 3)), 6), [1, 2, 3, 1, 1, 2])

    def test_the_starts_and_then_the_sums(self):
        for row in some_rows():
            for count in [0, 1, 2, 11, 12, 13, 40]:
                told = places(row, count)
                self.assertIs(type(told), list)
                self.assertEqual(told, step_by_step(row, count))

    def test_a_count_shorter_than_the_length(self):
        row = (0, tuple(range(12)), tuple(range(100, 112)))
        for count in range(13):
            self.assertEqual(places(row, count), list(range(100, 100 + count)))

    def test_300_places(self):
        for row in some_rows():
            told = places(row, 300)
            self.assertEqual(len(told), 300)
            self.assertTrue(told == step_by_step(row, 300))

    def test_numbers_of_two_hundred_figures(self):
        chance = random.Random(6)
        for length in [1, 2, 12]:
            row = some_row(chance, 0, length, 10 ** 200 - 1)
            self.assertTrue(places(row, 300) == step_by_step(row, 300))

    def test_the_row_of_the_length_0(self):
        for by in BYS:
            for count in [0, 1, 2, 300]:
                self.assertEqual(places((by, (), ()), count), [0] * count)

    def test_more_or_fewer_is_refused(self):
        for row in some_rows():
            for count in [-1, -2, 301, 302, -10 ** 60, 10 ** 60, 10 ** 5000, -10 ** 5000]:
                assert_refused(self, TooFar, places, row, count)


class WindowTest(unittest.TestCase):
    def test_told_ones(self):
        self.assertEqual(window(FIBONACCI, 0), (0, 1))
        self.assertEqual(window(FIBONACCI, 1), (1, 1))
        self.assertEqual(window(FIBONACCI, 9), (34, 55))
        self.assertEqual(window((7, (1, 1), (0, 1)), 7), (6, 0))

    def test_at_0_the_starts(self):
        for row in some_rows():
            self.assertEqual(window(row, 0), row[2])

    def test_as_many_as_the_length(self):
        for row in some_rows():
            length = len(row[1])
            walked = step_by_step(row, 300 + length)
            for n in [1, 2, 5, 11, 12, 13, 100, 299, 300]:
                told = window(row, n)
                self.assertIs(type(told), tuple)
                self.assertEqual(len(told), length)
                self.assertTrue(told == tuple(walked[n:n + length]))

    def test_the_row_of_the_length_0(self):
        for by in BYS:
            for n in [0, 1, 300]:
                self.assertEqual(window((by, (), ()), n), ())

    def test_farther_is_refused(self):
        for row in some_rows():
            for n in [-1, -2, -12, 301, 302, -10 ** 60, 10 ** 60, 10 ** 5000, -10 ** 5000]:
                assert_refused(self, TooFar, window, row, n)


class OwnTest(unittest.TestCase):
    def test_what_is_handed_in_stays_as_it_was(self):
        no_rows = [[0, [1, 1], [0, 1]], (0, [1, 1], [0, 1]), {"a": [(0, 1)]}, (4, ([1],), ([2],))]
        rows = some_rows()
        before = copy.deepcopy((no_rows, rows))
        for thing in no_rows + rows:
            is_row(thing)
        for row in rows:
            places(row, 20)
            window(row, 20)
        self.assertEqual((no_rows, rows), before)

    def test_a_told_list_that_is_changed_changes_nothing(self):
        for row in some_rows():
            for count in [0, 3, 12, 30]:
                told = places(row, count)
                kept = list(told)
                told.append(77)
                told[0] = "amiss"
                self.assertEqual(places(row, count), kept)
                self.assertEqual(window(row, 0), row[2])

    def test_what_was_told_stays_when_more_is_asked(self):
        told = places(FIBONACCI, 5)
        again = places(FIBONACCI, 5)
        self.assertIsNot(told, again)
        places(FIBONACCI, 300)
        window(FIBONACCI, 300)
        self.assertEqual(told, [0, 1, 1, 2, 3])
        self.assertEqual(again, [0, 1, 1, 2, 3])

    def test_equal_rows_are_told_equal_things(self):
        for one, other in zip(some_rows(), some_rows()):
            self.assertEqual(places(one, 30), places(other, 30))
            self.assertEqual(window(one, 30), window(other, 30))


if __name__ == "__main__":
    unittest.main()
