import copy
import random
import unittest

from helper import (
    BYS, FIBONACCI, PRIMES, assert_refused, poly_of, product, rest, some_numbers, some_row, some_rows, step_by_step,
)
from nextbyrule.errors import TooFar
from nextbyrule.far import jump, onward, place_at
from nextbyrule.rows import is_row

SIXTY_FIGURES = [10 ** 59, 10 ** 60 - 1, 123456789 ** 7, 2 ** 199, 2 ** 199 - 1]


def squares_and_steps(by, rule, n):
    """What is left of x ** n, by lines of numbers times one another; the program goes by polynomials."""
    length = len(rule)
    step = [[1 if k == i + 1 else 0 for k in range(length)] for i in range(length - 1)]
    step.append([rule[length - 1 - k] for k in range(length)])
    power = [[int(i == k) for k in range(length)] for i in range(length)]
    while n:
        if n % 2:
            power = lines_times(by, power, step)
        step = lines_times(by, step, step)
        n //= 2
    return tuple(power[0])


def lines_times(by, one, other):
    wide = range(len(one))
    return [[rest(by, sum(one[i][j] * other[j][k] for j in wide)) for k in wide] for i in wide]


def left_of(by, numbers, poly):
    """What is left of numbers divided by a monic polynomial, as many as its degree."""
    numbers = list(numbers)
    degree = len(poly) - 1
    while len(numbers) > degree:
        top = numbers.pop()
        for k in range(degree):
            at = len(numbers) - degree + k
            numbers[at] = rest(by, numbers[at] - top * poly[k])
    return numbers


class JumpTest(unittest.TestCase):
    def check(self, row, n):
        by, rule = row[:2]
        told = jump(row, n)
        self.assertIs(type(told), tuple)
        self.assertEqual(len(told), len(rule))
        self.assertTrue(all(type(number) is int and number == rest(by, number) for number in told))
        found = step_by_step(row, n + 2 * len(rule) + 3)
        for m in range(len(rule) + 3):
            reached = rest(by, sum(number * found[m + i] for i, number in enumerate(told)))
            self.assertTrue(reached == found[m + n])
        # The jump hangs on the rule alone: x ** n less it is divided by the rule's polynomial.
        less = [0] * max(n + 1, len(rule))
        less[n] = 1
        for i, number in enumerate(told):
            less[i] = rest(by, less[i] - number)
        self.assertFalse(any(left_of(by, less, poly_of(row))))

    def test_told_ones(self):
        self.assertEqual(jump(FIBONACCI, 0), (1, 0))
        self.assertEqual(jump(FIBONACCI, 1), (0, 1))
        self.assertEqual(jump(FIBONACCI, 2), (1, 1))
        self.assertEqual(jump(FIBONACCI, 10), (34, 55))
        self.assertEqual(jump((7, (1, 1), (0, 1)), 10), (6, 6))
        self.assertEqual(jump((0, (2,), (5,)), 400), (2 ** 400,))
        self.assertEqual(jump((0, (0,), (5,)), 0), (1,))
        self.assertEqual(jump((0, (0,), (5,)), 1), (0,))
        self.assertEqual(jump((2, (1,), (0,)), 0), (1,))
        self.assertEqual(jump((0, (0, 0, 1), (1, 2, 3)), 400), (0, 1, 0))

    def test_of_the_length_0(self):
        for by in [0] + PRIMES:
            for n in [0, 1, 2, 300, 400]:
                self.assertEqual(jump((by, (), ()), n), ())
        for n in SIXTY_FIGURES:
            self.assertEqual(jump((7, (), ()), n), ())

    def test_near_and_far(self):
        chance = random.Random(190)
        for by in BYS:
            for length in range(13):
                row = some_row(chance, by, length, 9)
                for n in list(range(length + 3)) + [2 * length, 2 * length + 1, 31, 32, 33, 100, 399, 400]:
                    self.check(row, n)

    def test_each_n(self):
        for row in [FIBONACCI, (2, (0, 1, 1), (1, 0, 0)), (7, (3, 5), (0, 1)), (0, (0, 0, 2), (1, -1, 1))]:
            for n in range(0, 401, 3):
                self.check(row, n)

    def test_rows_longer_than_they_need_be(self):
        # The rule is that of the row handed in, whatever its shortest row is.
        for by in BYS:
            for starts in [(0, 0, 0), (1, 1, 1)]:
                row = (by, (1, 1, rest(by, -1)), starts)
                self.check(row, 50)
                self.assertEqual(jump(row, 3), (rest(by, -1), 1, 1))

    def test_sixty_figures(self):
        chance = random.Random(191)
        for by in BYS[1:]:
            for length in range(1, 13):
                row = some_row(chance, by, length)
                n = chance.choice(SIXTY_FIGURES)
                self.assertEqual(jump(row, n), squares_and_steps(by, row[1], n))

    def test_by_every_prime(self):
        chance = random.Random(192)
        for by in PRIMES:
            row = some_row(chance, by, 3)
            self.assertEqual(jump(row, 10 ** 60 - 1), squares_and_steps(by, row[1], 10 ** 60 - 1))
            # To the power by - 1 each number but 0 is 1.
            self.assertEqual(jump((by, (by - 1,), (1,)), (by - 1) * 10 ** 50), (1,))

    def test_numbers_of_many_figures(self):
        row = some_row(random.Random(193), 0, 12, 10 ** 200 - 1)
        told = jump(row, 400)
        reached = sum(number * start for number, start in zip(told, row[2]))
        self.assertTrue(reached == step_by_step(row, 401)[400])

    def test_the_product_of_jumps(self):
        chance = random.Random(194)
        for by in BYS[1:]:
            row = some_row(chance, by, 6)
            for turn in range(10):
                one, other = chance.randrange(10 ** 59), chance.randrange(10 ** 59)
                both = product(by, jump(row, one), jump(row, other))
                self.assertEqual(list(jump(row, one + other)), left_of(by, both, poly_of(row)))


class PlaceAtTest(unittest.TestCase):
    def test_told_ones(self):
        self.assertEqual(place_at(FIBONACCI, 10), 55)
        self.assertEqual(place_at(FIBONACCI, 400) % 10 ** 20, 96575345044216019675)
        self.assertEqual(place_at((0, (2,), (5,)), 400), 5 * 2 ** 400)
        self.assertEqual(place_at((997, (2,), (5,)), 10 ** 59), 5 * pow(2, 10 ** 59, 997) % 997)

    def test_step_by_step(self):
        chance = random.Random(195)
        for by in BYS:
            for length in range(13):
                row = some_row(chance, by, length, 9)
                found = step_by_step(row, 401)
                for n in list(range(30)) + [chance.randrange(401) for turn in range(5)] + [399, 400]:
                    told = place_at(row, n)
                    self.assertIs(type(told), int)
                    self.assertEqual(told, found[n])

    def test_each_place(self):
        for row in [FIBONACCI, (7, (1, 1), (0, 1)), (2, (0, 0, 1, 1), (1, 0, 1, 0)), (0, (0, 0), (4, 5)), (0, (), ())]:
            self.assertEqual([place_at(row, n) for n in range(401)], step_by_step(row, 401))

    def test_sixty_figures(self):
        chance = random.Random(196)
        for by in BYS[1:]:
            for length in range(13):
                row = some_row(chance, by, length)
                n = chance.choice(SIXTY_FIGURES)
                numbers = squares_and_steps(by, row[1], n) if length else ()
                wanted = sum(number * start for number, start in zip(numbers, row[2])) % by
                self.assertEqual(place_at(row, n), wanted)

    def test_a_row_that_comes_round(self):
        # By 7 this row has the same places again behind each sixteen.
        row = (7, (1, 1), (0, 1))
        found = step_by_step(row, 16)
        for n in SIXTY_FIGURES:
            self.assertEqual(place_at(row, n), found[n % 16])


class OnwardTest(unittest.TestCase):
    def test_told_ones(self):
        self.assertEqual(onward(FIBONACCI, 0), FIBONACCI)
        self.assertEqual(onward(FIBONACCI, 10), (0, (1, 1), (55, 89)))
        self.assertEqual(onward((7, (1, 1), (0, 1)), 10), (7, (1, 1), (6, 5)))
        self.assertEqual(onward((0, (0, 0), (4, 5)), 1), (0, (0, 0), (5, 0)))
        self.assertEqual(onward((0, (), ()), 400), (0, (), ()))

    def test_step_by_step(self):
        chance = random.Random(197)
        for by in BYS:
            for length in range(13):
                row = some_row(chance, by, length, 9)
                found = step_by_step(row, 430)
                for n in list(range(14)) + [27, 64, 300, 399, 400]:
                    told = onward(row, n)
                    self.assertIs(is_row(told), True)
                    self.assertEqual(told[:2], row[:2])
                    self.assertTrue(step_by_step(told, 30) == found[n:n + 30])

    def test_sixty_figures(self):
        chance = random.Random(198)
        for by in BYS[1:]:
            for length in range(13):
                row = some_row(chance, by, length)
                n = chance.choice(SIXTY_FIGURES)
                told = onward(row, n)
                self.assertEqual(told[:2], row[:2])
                self.assertEqual(told[2], tuple(place_at(row, n + m) for m in range(length)))

    def test_numbers_of_many_figures(self):
        row = some_row(random.Random(199), 0, 12, 10 ** 200 - 1)
        told = onward(row, 400)
        self.assertTrue(told == row[:2] + (tuple(step_by_step(row, 412)[400:]),))


class TooFarTest(unittest.TestCase):
    def test_below_0(self):
        for row in some_rows():
            for call in [jump, place_at, onward]:
                for n in [-1, -2, -400, -10 ** 60]:
                    assert_refused(self, TooFar, call, row, n)

    def test_above_400_by_0(self):
        chance = random.Random(200)
        for length in range(13):
            row = some_row(chance, 0, length, 9)
            for call in [jump, place_at, onward]:
                for n in [401, 402, 1000, 10 ** 60, 10 ** 5000]:
                    assert_refused(self, TooFar, call, row, n)
                call(row, 400)

    def test_by_a_prime_nothing_is_too_far(self):
        for row in some_rows():
            if row[0] != 0:
                for n in [401, 10 ** 60 - 1]:
                    self.assertEqual(jump(row, n), squares_and_steps(row[0], row[1], n) if row[1] else ())


class OwnTest(unittest.TestCase):
    def test_what_is_handed_in_stays_as_it_was(self):
        rows = some_rows()
        before = copy.deepcopy(rows)
        for row in rows:
            for call in [jump, place_at, onward]:
                told = call(row, 17)
                self.assertEqual(call(copy.deepcopy(row), 17), told)
                self.assertEqual(call(row, 17), told)
        self.assertEqual(rows, before)

    def test_starts_do_not_matter_to_the_jump(self):
        chance = random.Random(201)
        for by, rule, starts in some_rows():
            other = tuple(some_numbers(chance, by, len(rule)))
            self.assertEqual(jump((by, rule, starts), 23), jump((by, rule, other), 23))


if __name__ == "__main__":
    unittest.main()
