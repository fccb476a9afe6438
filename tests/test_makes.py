import unittest

from rulerow.rules import makes
from tests.samples import SOME_PRIMES, numbers, plain_go_on, plain_makes, small_lists


class WhatARuleMakes(unittest.TestCase):
    def test_rows_known_by_hand(self):
        self.assertIs(makes(7, [1, 1], [0, 1, 1, 2, 3, 5, 1, 6, 0, 6]), True)
        self.assertIs(makes(7, [1, 1], [0, 1, 1, 2, 3, 5, 1, 6, 0, 5]), False)
        self.assertIs(makes(997, [2], [1, 2, 4, 8, 16, 32, 64, 128, 256, 512, 27]), True)
        self.assertIs(makes(2, [0, 1], [1, 0, 1, 0, 1]), True)
        self.assertIs(makes(2, [1, 0], [1, 0, 1, 0, 1]), False)

    def test_the_first_rest_goes_with_the_number_one_place_ahead(self):
        self.assertIs(makes(5, [1, 2], [3, 4, 0]), True)
        self.assertIs(makes(5, [2, 1], [3, 4, 0]), False)
        self.assertIs(makes(5, [2, 1], [3, 4, 1]), True)

    def test_every_small_rule_and_row(self):
        for prime, longest_rule, longest_row in [(2, 3, 6), (3, 2, 4)]:
            rows = small_lists(prime, longest_row)
            for rule in small_lists(prime, longest_rule):
                for row in rows:
                    self.assertIs(makes(prime, rule, row), plain_makes(prime, rule, row), (prime, rule, row))

    def test_one_wrong_number_behind_the_start_is_seen(self):
        for prime in SOME_PRIMES:
            rule = numbers(prime, 4, 1)
            row = plain_go_on(prime, rule, numbers(prime, 4, 2), 12)
            self.assertIs(makes(prime, rule, row), True)
            row[-1] = (row[-1] + 1) % prime
            self.assertIs(makes(prime, rule, row), False)

    def test_every_place_with_enough_ahead_counts(self):
        rule = [0, 0]
        for place in range(6):
            row = [0] * 6
            row[place] = 1
            self.assertIs(makes(11, rule, row), place < 2)

    def test_the_rule_of_none_makes_noughts_alone(self):
        for prime in SOME_PRIMES:
            self.assertIs(makes(prime, [], []), True)
            self.assertIs(makes(prime, [], [0]), True)
            self.assertIs(makes(prime, [], [0] * 9), True)
            self.assertIs(makes(prime, [], [1]), False)
            self.assertIs(makes(prime, [], [0, 0, prime - 1]), False)

    def test_a_row_no_longer_than_the_rule_is_made(self):
        for prime in SOME_PRIMES:
            rule = numbers(prime, 5, 3)
            for count in range(6):
                self.assertIs(makes(prime, rule, numbers(prime, count, 4)), True)


if __name__ == "__main__":
    unittest.main()
