import unittest

from helper import REFUSALS
from nextbyrule.errors import RuleError


class ErrorsTest(unittest.TestCase):
    def test_rule_error_stands_straight_under_value_error(self):
        self.assertEqual(RuleError.__bases__, (ValueError,))

    def test_each_refusal_stands_straight_under_rule_error(self):
        for refusal in REFUSALS:
            with self.subTest(refusal.__name__):
                self.assertEqual(refusal.__bases__, (RuleError,))

    def test_the_refusals_bear_the_names_of_the_interface(self):
        self.assertEqual(
            [refusal.__name__ for refusal in REFUSALS],
            ["NoNumber", "NoBy", "NoText", "TooFar", "TooLong", "TooBig", "NoRow", "NoName"],
        )

    def test_none_is_under_another_one(self):
        for one in REFUSALS:
            for other in REFUSALS:
                self.assertEqual(issubclass(one, other), one is other)


if __name__ == "__main__":
    unittest.main()
