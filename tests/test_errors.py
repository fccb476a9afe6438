import unittest

from rulerow import errors


class TheErrors(unittest.TestCase):
    def test_the_topmost_is_straight_under_value_error(self):
        self.assertEqual(errors.RuleError.__bases__, (ValueError,))

    def test_each_other_is_straight_under_the_topmost(self):
        for name in ["BadPrime", "BadRow", "BadRule", "BadPlace", "TooFew", "NoWay", "BadText"]:
            with self.subTest(name=name):
                self.assertEqual(getattr(errors, name).__bases__, (errors.RuleError,))


if __name__ == "__main__":
    unittest.main()
