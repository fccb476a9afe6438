import unittest

from rulerow.errors import NoWay
from rulerow.rules import backwards, both, makes
from tests.samples import PRIMES, SOME_PRIMES, numbers, plain_go_on, small_lists


def made_rows(prime, rule, count):
    """Rows of that count that the rule makes, from several starts."""
    length = len(rule)
    starts = [numbers(prime, length, seed) for seed in range(4)]
    starts += [[int(k == j) for k in range(length)] for j in range(length)]
    return [plain_go_on(prime, rule, start, max(0, count - length))[:count] for start in starts]


def together(prime, one, other):
    return [(a + b) % prime for a, b in zip(one, other)]


class Both(unittest.TestCase):
    def check(self, prime, one, other):
        rule = both(prime, one, other)
        self.assertEqual(len(rule), len(one) + len(other))
        self.assertTrue(all(type(rest) is int and 0 <= rest < prime for rest in rule))
        for count in [len(rule) + 1, 2 * len(rule) + 5]:
            firsts = made_rows(prime, one, count)
            seconds = made_rows(prime, other, count)
            for row in firsts + seconds:
                self.assertTrue(makes(prime, rule, row), (prime, one, other, row))
            for first in firsts:
                for second in seconds:
                    self.assertTrue(makes(prime, rule, together(prime, first, second)), (prime, one, other))

    def test_rules_known_by_hand(self):
        self.assertEqual(both(7, [2], [3]), [5, 1])
        self.assertEqual(both(997, [1], [996]), [0, 1])
        self.assertEqual(both(2, [1, 1], [1]), [0, 0, 1])
        self.assertEqual(both(5, [0], [0, 0]), [0, 0, 0])
        self.assertEqual(both(5, [0], [2, 3]), [2, 3, 0])

    def test_ordinary_rules(self):
        for prime in SOME_PRIMES:
            for length in range(5):
                for more in range(4):
                    self.check(prime, numbers(prime, length, 1), numbers(prime, more, 2))

    def test_every_small_rule(self):
        for prime in [2, 3]:
            for one in small_lists(prime, 2):
                for other in small_lists(prime, 2):
                    self.check(prime, one, other)

    def test_a_rule_with_itself(self):
        for prime in SOME_PRIMES:
            self.check(prime, [1], [1])
            self.check(prime, [prime - 1, 1], [prime - 1, 1])
            self.check(prime, [1, 0], [1, 0])

    def test_the_rule_of_none_on_either_side(self):
        for prime in SOME_PRIMES:
            rule = numbers(prime, 4, 3)
            self.assertEqual(both(prime, rule, []), rule)
            self.assertEqual(both(prime, [], rule), rule)
            self.assertEqual(both(prime, [], []), [])
            self.check(prime, rule, [])
            self.check(prime, [], rule)

    def test_the_sides_may_be_changed_over(self):
        for prime in SOME_PRIMES:
            one = numbers(prime, 4, 4)
            other = numbers(prime, 2, 5)
            self.assertEqual(both(prime, one, other), both(prime, other, one))


class Backwards(unittest.TestCase):
    def check(self, prime, rule):
        told = backwards(prime, rule)
        self.assertEqual(len(told), len(rule))
        self.assertTrue(all(type(rest) is int and 0 <= rest < prime for rest in told))
        self.assertEqual(backwards(prime, told), rule)
        for count in [0, 1, len(rule), len(rule) + 1, 2 * len(rule) + 5]:
            for row in made_rows(prime, rule, count):
                self.assertTrue(makes(prime, told, row[::-1]), (prime, rule, row))

    def test_rules_known_by_hand(self):
        self.assertEqual(backwards(7, [1, 1]), [6, 1])
        self.assertEqual(backwards(7, [2]), [4])
        self.assertEqual(backwards(997, [2]), [499])
        self.assertEqual(backwards(2, [1, 0, 1]), [0, 1, 1])
        self.assertEqual(backwards(5, [0, 0, 2]), [0, 0, 3])
        self.assertEqual(backwards(5, [1, 2, 3]), [1, 3, 2])

    def test_ordinary_rules(self):
        for prime in SOME_PRIMES:
            for length in range(6):
                for last in sorted({1, prime // 2, prime - 1}):
                    self.check(prime, numbers(prime, length, 1) + [last])

    def test_every_small_rule(self):
        for prime in [2, 3, 5]:
            for rule in small_lists(prime, 3):
                if rule == [] or rule[-1] != 0:
                    self.check(prime, rule)

    def test_each_prime(self):
        for prime in PRIMES:
            self.check(prime, [1, prime - 1])
            self.check(prime, [prime - 1, prime // 2])

    def test_the_rule_of_none(self):
        for prime in SOME_PRIMES:
            self.check(prime, [])
            self.assertEqual(backwards(prime, []), [])

    def test_no_way_with_a_last_rest_of_0(self):
        for prime in SOME_PRIMES:
            for rule in [[0], [1, 0], [0, 0], [1, prime - 1, 0], [1] * 9 + [0]]:
                with self.assertRaises(NoWay):
                    backwards(prime, rule)

    def test_noughts_elsewhere_are_no_hindrance(self):
        self.check(7, [0, 3])
        self.check(2, [0, 0, 0, 1])


if __name__ == "__main__":
    unittest.main()
