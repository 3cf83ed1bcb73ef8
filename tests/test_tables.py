import copy
import itertools
import math
import random
import unittest
from fractions import Fraction

from helper import BYS, PRIMES, rest, some_numbers
from nextbyrule.tables import determinant, solved


def some_table(chance, by, lines, wide, great=10 ** 3):
    return [some_numbers(chance, by, wide, great) for turn in range(lines)]


def by_orders(by, table):
    """The determinant as the sum over all orders, with nothing of the program in it."""
    size = len(table)
    total = 0
    for order in itertools.permutations(range(size)):
        turns = sum(order[i] > order[k] for i in range(size) for k in range(i + 1, size))
        total += (-1) ** turns * math.prod(table[i][order[i]] for i in range(size))
    return rest(by, total)


def by_fractions(table):
    """The determinant by 0 through fractions, for tables with too many orders."""
    lines = [[Fraction(number) for number in line] for line in table]
    total = Fraction(1)
    while lines:
        at = next((i for i in range(len(lines)) if lines[i][0]), None)
        if at is None:
            return 0
        head = lines.pop(at)
        total *= head[0] * (-1) ** at
        lines = [[line[k] - line[0] / head[0] * head[k] for k in range(1, len(line))] for line in lines]
    return int(total)


def table_product(by, one, other):
    size = len(one)
    return [[rest(by, sum(one[i][k] * other[k][j] for k in range(size))) for j in range(size)] for i in range(size)]


def sums(by, table, numbers):
    """The sum of the numbers with each line."""
    return [rest(by, sum(a * b for a, b in zip(line, numbers, strict=True))) for line in table]


def rank(by, table):
    """How many lines don't come of others: through fractions, or by the prime."""
    lines = [list(line) if by else [Fraction(number) for number in line] for line in table]
    found = 0
    while lines and lines[0]:
        at = next((i for i in range(len(lines)) if lines[i][0]), None)
        if at is not None:
            found += 1
            head = lines.pop(at)
            over = pow(head[0], -1, by) if by else 1 / head[0]
            lines = [[rest(by, line[k] - line[0] * over * head[k]) for k in range(len(head))] for line in lines]
        lines = [line[1:] for line in lines]
    return found


class DeterminantTest(unittest.TestCase):
    def assert_number(self, by, table, wished):
        told = determinant(by, table)
        self.assertIs(type(told), int)
        self.assertTrue(told == wished, (by, table))

    def test_of_none(self):
        for by in BYS:
            self.assert_number(by, [], 1)

    def test_told_ones(self):
        self.assert_number(0, [[5]], 5)
        self.assert_number(0, [[-5]], -5)
        self.assert_number(0, [[0]], 0)
        self.assert_number(0, [[1, 2], [3, 4]], -2)
        self.assert_number(7, [[1, 2], [3, 4]], 5)
        self.assert_number(2, [[1, 0], [1, 1]], 1)
        self.assert_number(0, [[2, 0, 1], [1, 3, 2], [1, 1, 4]], 18)
        self.assert_number(5, [[2, 0, 1], [1, 3, 2], [1, 1, 4]], 3)
        self.assert_number(0, [[0, 1], [1, 0]], -1)
        self.assert_number(0, [[0, 0, 1], [0, 1, 0], [1, 0, 0]], -1)
        self.assert_number(0, [[0, 1, 0], [0, 0, 1], [1, 0, 0]], 1)

    def test_all_small_ones(self):
        for numbers in itertools.product([-2, -1, 0, 1, 2], repeat=4):
            table = [list(numbers[:2]), list(numbers[2:])]
            self.assert_number(0, table, numbers[0] * numbers[3] - numbers[1] * numbers[2])
        for by in [2, 3]:
            for numbers in itertools.product(range(by), repeat=9):
                table = [list(numbers[:3]), list(numbers[3:6]), list(numbers[6:])]
                self.assert_number(by, table, by_orders(by, table))

    def test_the_sum_over_all_orders(self):
        chance = random.Random(30)
        for by in BYS:
            for size in range(7):
                for great in [1, 1000]:
                    table = some_table(chance, by, size, size, great)
                    self.assert_number(by, table, by_orders(by, table))

    def test_by_a_prime_the_rest(self):
        chance = random.Random(31)
        for by in PRIMES:
            table = some_table(chance, by, 5, 5)
            self.assert_number(by, table, determinant(0, table) % by)
        for by in [2, 3, 997]:
            table = some_table(chance, by, 12, 12)
            self.assert_number(by, table, determinant(0, table) % by)

    def test_equal_lines(self):
        chance = random.Random(32)
        for by in BYS:
            for size in range(2, 13):
                table = some_table(chance, by, size, size)
                for one, other in [(0, 1), (0, size - 1), (size - 2, size - 1)]:
                    again = copy.deepcopy(table)
                    again[other] = list(again[one])
                    self.assert_number(by, again, 0)

    def test_a_line_changed_with_another(self):
        chance = random.Random(33)
        for by in BYS:
            for size in range(2, 13):
                table = some_table(chance, by, size, size)
                told = determinant(by, table)
                for one, other in [(0, 1), (0, size - 1), (size - 2, size - 1)]:
                    again = copy.deepcopy(table)
                    again[one], again[other] = again[other], again[one]
                    self.assert_number(by, again, rest(by, -told))

    def test_of_a_product_the_product(self):
        chance = random.Random(34)
        for by in BYS:
            for size in range(13):
                one, other = some_table(chance, by, size, size), some_table(chance, by, size, size)
                wished = rest(by, determinant(by, one) * determinant(by, other))
                self.assert_number(by, table_product(by, one, other), wished)

    def test_lines_and_columns_of_noughts(self):
        chance = random.Random(35)
        for by in BYS:
            for size in range(1, 13):
                table = some_table(chance, by, size, size)
                for at in [0, size // 2, size - 1]:
                    self.assert_number(by, table[:at] + [[0] * size] + table[at + 1:], 0)
                    self.assert_number(by, [line[:at] + [0] + line[at + 1:] for line in table], 0)

    def test_noughts_where_a_plain_way_would_divide(self):
        chance = random.Random(36)
        for by in BYS:
            for size in range(2, 7):
                for turn in range(20):
                    table = some_table(chance, by, size, size)
                    for i in range(size):
                        for k in range(size):
                            if i + k < size - 1 or chance.random() < 0.4:
                                table[i][k] = 0
                    self.assert_number(by, table, by_orders(by, table))
                    self.assert_number(by, table[::-1], by_orders(by, table[::-1]))
        # Here the first head is there, and the second comes out as 0.
        self.assert_number(0, [[1, 2, 3], [2, 4, 5], [3, 5, 6]], -1)
        self.assert_number(7, [[1, 2, 3], [2, 4, 5], [3, 5, 6]], 6)

    def test_orders_of_twelve(self):
        chance = random.Random(37)
        for by in BYS:
            for turn in range(10):
                order = list(range(12))
                chance.shuffle(order)
                turns = sum(order[i] > order[k] for i in range(12) for k in range(i + 1, 12))
                table = [[int(order[i] == k) for k in range(12)] for i in range(12)]
                self.assert_number(by, table, rest(by, (-1) ** turns))

    def test_twelve_lines_of_twenty_figures(self):
        chance = random.Random(38)
        for turn in range(3):
            table = some_table(chance, 0, 12, 12, 10 ** 20 - 1)
            self.assert_number(0, table, by_fractions(table))

    def test_numbers_of_four_thousand_figures(self):
        one, two, three, four = [some_numbers(random.Random(39), 0, 1, 10 ** 4000 - 1)[0] + k for k in range(4)]
        self.assert_number(0, [[one, -two], [three, four]], one * four + two * three)

    def test_tables_of_a_smaller_rank(self):
        chance = random.Random(40)
        for by in BYS:
            for size in range(2, 13):
                table = some_table(chance, by, size, size)
                factors = some_numbers(chance, by, size - 1)
                mixed = [rest(by, sum(f * line[k] for f, line in zip(factors, table[1:]))) for k in range(size)]
                self.assert_number(by, [mixed] + table[1:], 0)
                self.assert_number(by, table[1:] + [mixed], 0)


class SolvedTest(unittest.TestCase):
    def assert_numbers(self, by, told, count):
        self.assertIs(type(told), list)
        self.assertEqual(len(told), count)
        for number in told:
            self.assertIs(type(number), int)
            self.assertTrue(rest(by, number) == number)

    def assert_fits(self, by, wide, table, wished, bottom, tops):
        self.assert_numbers(by, tops, wide)
        self.assertIs(type(bottom), int)
        self.assertGreaterEqual(bottom, 1)
        if by:
            self.assertEqual(bottom, 1)
        self.assertEqual(math.gcd(bottom, *tops) if by == 0 else 1, 1)
        self.assertTrue(sums(by, table, tops) == [rest(by, bottom * number) for number in wished])

    def check(self, by, wide, table, wished):
        """The answer held against the document, its first word against the ranks; that word is given back."""
        told = solved(by, wide, table, wished)
        self.assertIs(type(told), tuple)
        kind = told[0]
        before = rank(by, table)
        behind = rank(by, [line + [number] for line, number in zip(table, wished)])
        self.assertEqual(kind, "none" if behind > before else "one" if before == wide else "many")
        self.assertEqual(len(told), {"one": 3, "many": 4, "none": 2}[kind])
        if kind == "none":
            paper = told[1]
            self.assert_numbers(by, paper, len(table))
            columns = [[line[k] for line in table] for k in range(wide)]
            self.assertEqual(sums(by, columns, paper), [0] * wide)
            self.assertNotEqual(sums(by, [wished], paper), [0])
        else:
            self.assert_fits(by, wide, table, wished, told[1], told[2])
        if kind == "many":
            self.assert_numbers(by, told[3], wide)
            self.assertTrue(any(told[3]))
            self.assertEqual(sums(by, table, told[3]), [0] * len(table))
        return kind

    def test_told_ones(self):
        self.assertEqual(solved(0, 2, [[1, 1], [1, -1]], [3, 1]), ("one", 1, [2, 1]))
        self.assertEqual(solved(0, 2, [[2, 0], [0, 3]], [1, 1]), ("one", 6, [3, 2]))
        self.assertEqual(solved(0, 2, [[2, 0], [0, 4]], [1, 1]), ("one", 4, [2, 1]))
        self.assertEqual(solved(0, 1, [[-4]], [6]), ("one", 2, [-3]))
        self.assertEqual(solved(0, 1, [[6], [-4]], [-9, 6]), ("one", 2, [-3]))
        self.assertEqual(solved(0, 1, [[5]], [0]), ("one", 1, [0]))
        self.assertEqual(solved(7, 2, [[2, 0], [0, 3]], [1, 1]), ("one", 1, [4, 5]))
        self.assertEqual(solved(7, 1, [[3], [6]], [1, 2]), ("one", 1, [5]))

    def test_the_kinds_of_told_ones(self):
        for by in BYS:
            self.assertEqual(self.check(by, 2, [[1, 1]], [1]), "many")
            self.assertEqual(self.check(by, 2, [[1, 1], [1, 1]], [1, 0]), "none")
            self.assertEqual(self.check(by, 2, [[0, 0]], [0]), "many")
            self.assertEqual(self.check(by, 2, [[0, 0]], [1]), "none")
            self.assertEqual(self.check(by, 2, [[1, 0], [0, 1], [1, 1]], [1, 0, 1]), "one")
            self.assertEqual(self.check(by, 2, [[1, 0], [0, 1], [1, 1]], [1, 0, 0]), "none")
        self.assertEqual(self.check(0, 2, [[2, 4], [1, 2]], [2, 1]), "many")
        self.assertEqual(self.check(0, 2, [[2, 4], [1, 2]], [1, 2]), "none")
        self.assertEqual(self.check(5, 2, [[2, 3], [1, 4]], [1, 3]), "many")
        self.assertEqual(self.check(5, 2, [[2, 3], [1, 4]], [1, 2]), "none")

    def test_without_lines(self):
        for by in BYS:
            self.assertEqual(solved(by, 0, [], []), ("one", 1, []))
            for wide in range(1, 13):
                self.assertEqual(self.check(by, wide, [], []), "many")

    def test_wide_0(self):
        for by in BYS:
            for lines in range(1, 31):
                self.assertEqual(solved(by, 0, [[] for turn in range(lines)], [0] * lines), ("one", 1, []))
                for at in {0, lines // 2, lines - 1}:
                    wished = [0] * lines
                    wished[at] = 1
                    self.assertEqual(self.check(by, 0, [[] for turn in range(lines)], wished), "none")
        self.assertEqual(self.check(0, 0, [[], []], [0, -5]), "none")

    def test_all_small_ones(self):
        for by, lines, wide in [(2, 2, 2), (2, 3, 2), (2, 2, 3), (3, 2, 2), (3, 3, 1), (3, 1, 3)]:
            for numbers in itertools.product(range(by), repeat=lines * (wide + 1)):
                table = [list(numbers[i * wide:(i + 1) * wide]) for i in range(lines)]
                self.check(by, wide, table, list(numbers[lines * wide:]))

    def test_all_small_ones_by_0(self):
        for numbers in itertools.product([-2, 0, 1, 3], repeat=6):
            self.check(0, 2, [list(numbers[:2]), list(numbers[2:4])], list(numbers[4:]))

    def test_by_chance_of_each_size(self):
        chance = random.Random(41)
        kinds = []
        for by in BYS:
            for lines in [0, 1, 2, 3, 4, 7, 12, 30]:
                for wide in [0, 1, 2, 3, 5, 12]:
                    for great in [1, 50]:
                        table = some_table(chance, by, lines, wide, great)
                        kinds.append(self.check(by, wide, table, some_numbers(chance, by, lines, great)))
        self.assertEqual(set(kinds), {"one", "many", "none"})

    def test_wished_ones_that_come_of_a_solution(self):
        chance = random.Random(42)
        for by in BYS:
            for lines in [1, 2, 3, 6, 12, 30]:
                for wide in [1, 2, 3, 6, 12]:
                    table = some_table(chance, by, lines, wide, 9)
                    wished = sums(by, table, some_numbers(chance, by, wide, 9))
                    self.assertNotEqual(self.check(by, wide, table, wished), "none")

    def test_lines_that_come_of_others(self):
        chance = random.Random(43)
        for by in BYS:
            for kept in range(1, 8):
                few = some_table(chance, by, kept, 8, 9)
                mixes = some_table(chance, by, 12, kept, 3)
                table = [sums(by, [[line[k] for line in few] for k in range(8)], mix) for mix in mixes]
                wished = sums(by, table, some_numbers(chance, by, 8, 9))
                self.assertEqual(self.check(by, 8, table, wished), "many")
                wished[11] = rest(by, wished[11] + 1)
                self.check(by, 8, table, wished)

    def test_noughts_where_heads_are_sought(self):
        chance = random.Random(44)
        for by in BYS:
            for turn in range(100):
                lines, wide = chance.randrange(1, 7), chance.randrange(1, 7)
                table = some_table(chance, by, lines, wide, 4)
                table = [[number if chance.random() < 0.4 else 0 for number in line] for line in table]
                wished = [number if chance.random() < 0.5 else 0 for number in some_numbers(chance, by, lines, 4)]
                self.check(by, wide, table, wished)

    def test_thirty_lines_of_twelve_numbers(self):
        chance = random.Random(45)
        for by in BYS:
            for great in [9, 10 ** 20]:
                table = some_table(chance, by, 30, 12, great)
                wished = sums(by, table, some_numbers(chance, by, 12, great))
                self.check(by, 12, table, wished)
                wished[29] = rest(by, wished[29] + 1)
                self.assertEqual(self.check(by, 12, table, wished), "none")
                self.check(by, 12, table, some_numbers(chance, by, 30, great))

    def test_fractions(self):
        chance = random.Random(46)
        for turn in range(60):
            wide = chance.randrange(1, 6)
            lines = wide + chance.randrange(3)
            x = [Fraction(chance.randint(-9, 9), chance.randint(1, 9)) for k in range(wide)]
            table = some_table(chance, 0, lines, wide, 9)
            bottom = math.lcm(*[part.denominator for part in x])
            table = [[bottom * number for number in line] for line in table]
            wished = [int(sum(a * b for a, b in zip(line, x))) for line in table]
            if self.check(0, wide, table, wished) == "one":
                self.assertEqual(solved(0, wide, table, wished), ("one", bottom, [int(bottom * part) for part in x]))

    def test_numbers_of_many_figures(self):
        chance = random.Random(47)
        for great in [10 ** 200 - 1, 10 ** 4000 - 1]:
            table = some_table(chance, 0, 3, 2, great)
            wished = some_numbers(chance, 0, 3, great)
            self.assertEqual(self.check(0, 2, table, wished), "none")
            self.assertEqual(self.check(0, 2, table[:2], wished[:2]), "one")
            self.assertEqual(self.check(0, 2, table[:1], wished[:1]), "many")

    def test_by_every_prime(self):
        chance = random.Random(48)
        for by in PRIMES:
            for lines, wide in [(3, 3), (2, 4), (4, 2)]:
                self.check(by, wide, some_table(chance, by, lines, wide), some_numbers(chance, by, lines))


class OwnTest(unittest.TestCase):
    def test_what_is_handed_in_stays_as_it_was(self):
        chance = random.Random(49)
        for by in BYS:
            for lines, wide in [(4, 4), (6, 2), (2, 6), (0, 3), (3, 0)]:
                table = some_table(chance, by, lines, wide)
                wished = some_numbers(chance, by, lines)
                before = copy.deepcopy((table, wished))
                solved(by, wide, table, wished)
                if lines == wide:
                    determinant(by, table)
                self.assertEqual((table, wished), before)

    def test_told_lists_that_are_changed_change_nothing(self):
        for by in BYS:
            for table, wished in [([[1, 0], [0, 1]], [1, 1]), ([[1, 1]], [1]), ([[1, 1], [1, 1]], [0, 1]), ([], [])]:
                told = solved(by, 2, table, wished)
                kept = copy.deepcopy(told)
                before = copy.deepcopy((table, wished))
                for part in told:
                    if isinstance(part, list):
                        part.append("amiss")
                        part[0] = "amiss"
                self.assertEqual((table, wished), before)
                self.assertEqual(solved(by, 2, table, wished), kept)

    def test_handed_in_lists_that_are_changed_afterwards_change_nothing_told(self):
        table, wished = [[1, 1], [1, 1]], [0, 1]
        told = solved(0, 2, table, wished)
        kept = copy.deepcopy(told)
        table[0][0] = wished[0] = 99
        table.clear()
        self.assertEqual(told, kept)


if __name__ == "__main__":
    unittest.main()
