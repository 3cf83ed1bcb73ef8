import copy
import itertools
import random
import unittest
from fractions import Fraction

from helper import (
    BYS, FIBONACCI, PRIMES, lengthened, rest, shortest_by_chance, some_monic, some_numbers, some_row, step_by_step,
)
from nextbyrule.known import fitted, paper_of


def combined(by, numbers, known, n):
    """The first of the numbers times what is known just before n, and so on; with nothing of the program in it."""
    return rest(by, sum(number * known[n - 1 - k] for k, number in enumerate(numbers)))


def fits(by, known, bottom, tops):
    return all(combined(by, tops, known, n) == rest(by, bottom * known[n]) for n in range(len(tops), len(known)))


def least_length(by, known):
    """By the way of Berlekamp and Massey, with fractions; the program goes another."""
    rule, spare = [Fraction(1)], [Fraction(1)]
    length, gap, base = 0, 1, Fraction(1)
    for n, number in enumerate(known):
        amiss = number + sum(rule[k] * known[n - k] for k in range(1, min(length, len(rule) - 1) + 1))
        amiss = rest(by, amiss)
        if amiss == 0:
            gap += 1
            continue
        factor = amiss / base if by == 0 else amiss * pow(int(base), -1, by)
        shifted = [0] * gap + [factor * part for part in spare]
        wide = max(len(rule), len(shifted))
        fresh = [(rule + [0] * wide)[k] - (shifted + [0] * wide)[k] for k in range(wide)]
        fresh = [rest(by, part) for part in fresh]
        if 2 * length <= n:
            length, gap, base, spare = n + 1 - length, 1, amiss, rule
        else:
            gap += 1
        rule = fresh
    return length


def divide_all(bottom, tops):
    return [d for d in range(2, bottom + 1) if bottom % d == 0 and all(top % d == 0 for top in tops)]


class FittedTest(unittest.TestCase):
    def check(self, by, known):
        """Whatever [13] says of a told answer, but that no lesser length has one; tells its length."""
        told = fitted(by, known)
        self.assertIsInstance(told, tuple)
        word, bottom, tops = told[:3]
        self.assertIs(type(bottom), int)
        self.assertGreaterEqual(bottom, 1)
        self.assertIs(type(tops), list)
        self.assertTrue(all(type(top) is int and top == rest(by, top) for top in tops))
        self.assertTrue(fits(by, known, bottom, tops), (by, known, told))
        if by:
            self.assertEqual(bottom, 1)
        elif bottom < 10 ** 4:
            self.assertEqual(divide_all(bottom, tops), [])
        length = len(tops)
        self.assertLessEqual(length, len(known))
        if 2 * length <= len(known):
            self.assertEqual((word, len(told)), ("one", 3))
        else:
            self.assertEqual((word, len(told)), ("many", 4))
            free = told[3]
            self.assertIs(type(free), list)
            self.assertEqual(len(free), length)
            self.assertTrue(all(type(number) is int and number == rest(by, number) for number in free))
            self.assertTrue(any(free))
            self.assertTrue(all(combined(by, free, known, n) == 0 for n in range(length, len(known))))
        return length

    def test_told_ones(self):
        self.assertEqual(fitted(0, [0, 1, 1, 2]), ("one", 1, [1, 1]))
        self.assertEqual(fitted(0, [0, 1, 1, 2, 3, 5, 8]), ("one", 1, [1, 1]))
        self.assertEqual(fitted(0, [5, 5]), ("one", 1, [1]))
        self.assertEqual(fitted(0, [5, 0]), ("one", 1, [0]))
        self.assertEqual(fitted(0, [5, 0, 0, 0]), ("one", 1, [0]))
        self.assertEqual(fitted(0, [4, 6, 9]), ("one", 2, [3]))
        self.assertEqual(fitted(0, [2, 1]), ("one", 2, [1]))
        self.assertEqual(fitted(0, [-6, 4]), ("one", 3, [-2]))
        self.assertEqual(fitted(7, [3, 5, 6]), ("one", 1, [4]))
        self.assertEqual(fitted(2, [1, 0, 1, 0]), ("one", 1, [0, 1]))
        self.assertEqual(fitted(0, [7])[0], "many")
        self.assertEqual(len(fitted(0, [7])[2]), 1)
        self.assertEqual(len(fitted(0, [0, 0, 1])[2]), 3)
        self.assertEqual(len(fitted(0, [1, 2, 4, 9])[2]), 3)

    def test_none_known(self):
        for by in [0] + PRIMES:
            self.assertEqual(fitted(by, []), ("one", 1, []))

    def test_noughts(self):
        for by in BYS:
            for count in range(25):
                self.assertEqual(fitted(by, [0] * count), ("one", 1, []))

    def test_noughts_and_then_a_number(self):
        for by in BYS:
            for count in range(24):
                self.assertEqual(self.check(by, [0] * count + [1]), count + 1)
                self.assertEqual(self.check(by, [1] * count + [0]), count)

    def test_places_of_a_row(self):
        chance = random.Random(130)
        for by in BYS:
            for length in range(13):
                row = shortest_by_chance(chance, by, length, 50)
                for count in range(2 * length, 25):
                    self.assertEqual(fitted(by, step_by_step(row, count)), ("one", 1, list(row[1])))

    def test_by_every_prime(self):
        chance = random.Random(131)
        for by in PRIMES:
            row = shortest_by_chance(chance, by, 3, 1000)
            self.assertEqual(fitted(by, step_by_step(row, 6)), ("one", 1, list(row[1])))

    def test_one_place_too_few(self):
        chance = random.Random(132)
        for by in BYS:
            for length in range(1, 13):
                row = shortest_by_chance(chance, by, length, 50)
                known = step_by_step(row, 2 * length - 1)
                told = self.check(by, known)
                self.assertLessEqual(told, length)
                # Of the same length it is one of many; a lesser one is another than the row's.
                self.assertTrue(fitted(by, known)[0] == "many" or told < length)

    def test_rules_longer_than_they_need_be(self):
        chance = random.Random(133)
        for by in BYS:
            row = shortest_by_chance(chance, by, 4, 9)
            longer = lengthened(row, some_monic(chance, by, 5, 9))
            self.assertEqual(fitted(by, step_by_step(longer, 24)), ("one", 1, list(row[1])))

    def test_fractions(self):
        chance = random.Random(134)
        for length in range(1, 9):
            for turn in range(10):
                bottom = chance.randint(2, 9)
                tops = some_numbers(chance, 0, length, 20)
                starts = [bottom ** 24 * number for number in some_numbers(chance, 0, length, 20)]
                known = list(starts)
                for n in range(length, 2 * length + 6):
                    total = combined(0, tops, known, n)
                    self.assertEqual(total % bottom, 0)
                    known.append(total // bottom)
                if least_length(0, known) == length:
                    told = fitted(0, known)
                    low = bottom // max([1] + divide_all(bottom, tops))
                    self.assertEqual(told, ("one", low, [top * low // bottom for top in tops]))

    def test_all_of_few_places_against_all_rules(self):
        for by, most in [(2, 8), (3, 5), (5, 4)]:
            for count in range(most + 1):
                rules = [list(itertools.product(range(by), repeat=length)) for length in range(count + 1)]
                for known in itertools.product(range(by), repeat=count):
                    known = list(known)
                    length = self.check(by, known)
                    for lesser in range(length):
                        self.assertFalse(any(fits(by, known, 1, rule) for rule in rules[lesser]))
                    fitting = sum(fits(by, known, 1, rule) for rule in rules[length])
                    self.assertEqual(fitted(by, known)[0], "one" if fitting == 1 else "many")

    def test_all_of_few_places_by_0(self):
        for count in range(6):
            for known in itertools.product([-1, 0, 1, 2] if count < 5 else [0, 1, 3], repeat=count):
                self.assertEqual(self.check(0, list(known)), least_length(0, known))

    def test_by_chance(self):
        chance = random.Random(135)
        for by in BYS:
            for count in range(25):
                for great in [1, 3, 1000]:
                    known = some_numbers(chance, by, count, great)
                    self.assertEqual(self.check(by, known), least_length(by, known))
                    # A row that ends, and one that one place puts amiss.
                    ended = known[:count // 3] + [0] * (count - count // 3)
                    self.assertEqual(self.check(by, ended), least_length(by, ended))
                    amiss = ended[:-1] + [1]
                    self.assertEqual(self.check(by, amiss), least_length(by, amiss))

    def test_numbers_of_many_figures(self):
        chance = random.Random(136)
        for count, figures in [(6, 4000), (24, 100)]:
            known = some_numbers(chance, 0, count, 10 ** figures - 1)
            self.assertTrue(self.check(0, known) == count // 2)
        far = step_by_step(FIBONACCI, 300)[276:]
        self.assertEqual(fitted(0, far), ("one", 1, [1, 1]))


class PaperOfTest(unittest.TestCase):
    def check(self, by, known):
        length = len(fitted(by, known)[2])
        for size in range(length):
            paper = paper_of(by, known, size)
            self.assertIs(type(paper), list)
            self.assertEqual(len(paper), len(known) - size)
            self.assertTrue(all(type(number) is int and number == rest(by, number) for number in paper))
            lines = range(size, len(known))
            for k in range(size):
                self.assertEqual(rest(by, sum(paper[n - size] * known[n - 1 - k] for n in lines)), 0)
            self.assertNotEqual(rest(by, sum(paper[n - size] * known[n] for n in lines)), 0)
        for size in range(length, len(known) + 1):
            self.assertIsNone(paper_of(by, known, size))

    def test_told_ones(self):
        self.assertIsNone(paper_of(0, [], 0))
        self.assertIsNone(paper_of(0, [0, 0], 0))
        self.assertIsNone(paper_of(0, [5], 1))
        paper = paper_of(0, [1, 2, 5], 1)
        # Times the lines 1 and 2 it sums up to 0.
        self.assertEqual(paper[0] + 2 * paper[1], 0)
        self.assertNotEqual(2 * paper[0] + 5 * paper[1], 0)
        self.assertEqual(paper_of(7, [0, 0, 3], 2), [5])

    def test_places_of_a_row(self):
        chance = random.Random(140)
        for by in BYS:
            for length in range(13):
                self.check(by, step_by_step(some_row(chance, by, length, 20), 24))

    def test_by_chance(self):
        chance = random.Random(141)
        for by in BYS:
            for count in range(25):
                self.check(by, some_numbers(chance, by, count))
                self.check(by, some_numbers(chance, by, count // 2, 1) + [0] * (count - count // 2))
                self.check(by, [0] * count + [1])

    def test_all_of_few_places(self):
        for by, most in [(2, 7), (3, 4), (5, 3)]:
            for count in range(most + 1):
                for known in itertools.product(range(by), repeat=count):
                    self.check(by, list(known))

    def test_numbers_of_many_figures(self):
        chance = random.Random(142)
        self.check(0, some_numbers(chance, 0, 6, 10 ** 4000 - 1))


class OwnTest(unittest.TestCase):
    def test_what_is_handed_in_stays_as_it_was(self):
        chance = random.Random(143)
        for by in BYS:
            for count in range(0, 25, 3):
                known = some_numbers(chance, by, count)
                before = list(known)
                self.assertEqual(fitted(by, known), fitted(by, list(before)))
                for size in range(count + 1):
                    self.assertEqual(paper_of(by, known, size), paper_of(by, list(before), size))
                self.assertEqual(known, before)

    def test_told_lists_that_are_changed_change_nothing(self):
        for by in BYS:
            for known in [[], [0, 0], [1], [0, 1, 1], [0, 1, 1, 0, 1]]:
                told = fitted(by, known)
                kept = copy.deepcopy(told)
                for part in told[2:]:
                    part.append("amiss")
                self.assertEqual(fitted(by, known), kept)
                for size in range(len(kept[2])):
                    paper = paper_of(by, known, size)
                    kept_paper = list(paper)
                    paper.clear()
                    self.assertEqual(paper_of(by, known, size), kept_paper)


if __name__ == "__main__":
    unittest.main()
