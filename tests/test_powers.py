import random
import unittest

from helper import product, rule_of_poly, some_numbers
from nextbyrule.powers import power_sums, rule_of_sums


def rule_with(roots):
    poly = (1,)
    for root in roots:
        poly = product(0, poly, (-root, 1))
    return rule_of_poly(0, poly)


class PowersTest(unittest.TestCase):
    def test_told_ones(self):
        self.assertEqual(power_sums((1, 1), 6), [1, 3, 4, 7, 11, 18])
        self.assertEqual(rule_of_sums([1, 3]), [1, 1])
        self.assertEqual(power_sums((), 3), [0, 0, 0])
        self.assertEqual(power_sums((5,), 0), [])
        self.assertEqual(rule_of_sums([]), [])

    def test_roots(self):
        chance = random.Random(210)
        for length in range(13):
            for turn in range(10):
                roots = some_numbers(chance, 0, length, 9)
                sums = [sum(root ** k for root in roots) for k in range(1, 31)]
                self.assertEqual(power_sums(rule_with(roots), 30), sums)
                self.assertEqual(tuple(rule_of_sums(sums[:length])), rule_with(roots))

    def test_back_again(self):
        chance = random.Random(211)
        for length in range(13):
            rule = some_numbers(chance, 0, length, 10 ** 40)
            self.assertEqual(rule_of_sums(power_sums(rule, length)), rule)
            # With more sums than roots, the roots that are missing are noughts.
            self.assertEqual(rule_of_sums(power_sums(rule, length + 3)), rule + [0, 0, 0])


if __name__ == "__main__":
    unittest.main()
