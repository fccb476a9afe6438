import itertools
import unittest

from rulerow.rules import far, go_on
from tests.samples import HUGE, SOME_PRIMES, numbers, plain_go_on


def matrix_product(prime, one, other):
    return [[sum(a * b for a, b in zip(line, column)) % prime for column in zip(*other)] for line in one]


def matrix_far(prime, rule, row, place):
    """The number at a place behind the row, by powers of the matrix that takes one step."""
    size = len(rule)
    step = [rule] + [[int(k == j) for k in range(size)] for j in range(size - 1)]
    power = [[int(k == j) for k in range(size)] for j in range(size)]
    for figure in bin(place - len(row) + 1)[2:]:
        power = matrix_product(prime, power, power)
        if figure == "1":
            power = matrix_product(prime, power, step)
    latest = row[len(row) - size:][::-1]
    return sum(a * b for a, b in zip(power[0], latest)) % prime


class GoneOn(unittest.TestCase):
    def test_rows_known_by_hand(self):
        self.assertEqual(go_on(7, [1, 1], [0, 1], 8), [0, 1, 1, 2, 3, 5, 1, 6, 0, 6])
        self.assertEqual(go_on(997, [2], [1], 10), [1, 2, 4, 8, 16, 32, 64, 128, 256, 512, 27])
        self.assertEqual(go_on(2, [0, 1], [1, 0], 3), [1, 0, 1, 0, 1])
        self.assertEqual(go_on(5, [1, 2], [3, 4], 1), [3, 4, 0])

    def test_ordinary_rows(self):
        for prime in SOME_PRIMES:
            for length in range(6):
                for count in range(length, length + 4):
                    rule = numbers(prime, length, 1)
                    row = numbers(prime, count, 2)
                    for many in [0, 1, 2, 25]:
                        self.assertEqual(go_on(prime, rule, row, many), plain_go_on(prime, rule, row, many))

    def test_the_row_itself_need_not_be_made_by_the_rule(self):
        self.assertEqual(go_on(5, [1], [1, 2, 3], 2), [1, 2, 3, 3, 3])
        self.assertEqual(far(5, [1], [1, 2, 3], 0), 1)
        self.assertEqual(far(5, [1], [1, 2, 3], HUGE), 3)

    def test_a_count_of_0(self):
        for row in [[], [1], [1, 0, 1]]:
            self.assertEqual(go_on(3, [], row, 0), row)

    def test_the_rule_of_none_goes_on_with_noughts(self):
        for prime in SOME_PRIMES:
            self.assertEqual(go_on(prime, [], [], 3), [0, 0, 0])
            self.assertEqual(go_on(prime, [], [1, 1], 3), [1, 1, 0, 0, 0])
            self.assertEqual(go_on(prime, [], [], 0), [])


class Far(unittest.TestCase):
    def test_each_place_is_as_in_the_row_gone_on(self):
        for prime in SOME_PRIMES:
            for length in range(7):
                for count in range(length, length + 3):
                    rule = numbers(prime, length, 5)
                    row = numbers(prime, count, 6)
                    told = [far(prime, rule, row, place) for place in range(count + 40)]
                    self.assertEqual(told, plain_go_on(prime, rule, row, 40), (prime, rule, row))

    def test_every_small_rule_and_start(self):
        for prime, length in [(2, 1), (2, 2), (2, 3), (3, 1), (3, 2), (5, 1)]:
            for rule in itertools.product(range(prime), repeat=length):
                for row in itertools.product(range(prime), repeat=length):
                    told = [far(prime, list(rule), list(row), place) for place in range(length + 12)]
                    self.assertEqual(told, plain_go_on(prime, list(rule), list(row), 12))

    def test_powers_very_far(self):
        for prime in SOME_PRIMES:
            for rest in [1, prime // 2, prime - 1]:
                for place in [10 ** 18, 10 ** 100 + 7, HUGE, HUGE + 1]:
                    self.assertEqual(far(prime, [rest], [1], place), pow(rest, place, prime))

    def test_the_plain_numbers_very_far(self):
        # By the rule 2, -1 from 0, 1 on, each place holds its own rest.
        for prime in SOME_PRIMES:
            for place in [10 ** 18, 10 ** 100 + 7, HUGE + 3]:
                self.assertEqual(far(prime, [2 % prime, prime - 1], [0, 1], place), place % prime)

    def test_longer_rules_very_far(self):
        for prime in SOME_PRIMES:
            for length, place in [(2, 10 ** 300 + 1), (3, 10 ** 100), (5, 10 ** 60 + 9), (8, 10 ** 30), (8, 2 ** 64)]:
                for count in [length, length + 3]:
                    rule = numbers(prime, length, 7)
                    row = numbers(prime, count, 8)
                    self.assertEqual(far(prime, rule, row, place), matrix_far(prime, rule, row, place))

    def test_rules_with_noughts_very_far(self):
        self.assertEqual(far(7, [0], [3], 0), 3)
        self.assertEqual(far(7, [0], [3], HUGE), 0)
        self.assertEqual(far(7, [1, 0, 0], [3, 4, 5], HUGE), 5)
        self.assertEqual([far(7, [0, 0, 1], [3, 4, 5], 3 * HUGE + k) for k in range(3)], [3, 4, 5])
        self.assertEqual(far(2, [0] * 9, [1] * 9, 8), 1)
        self.assertEqual(far(2, [0] * 9, [1] * 9, 9), 0)

    def test_the_rule_of_none(self):
        for prime in SOME_PRIMES:
            self.assertEqual(far(prime, [], [], 0), 0)
            self.assertEqual(far(prime, [], [], HUGE), 0)
            self.assertEqual([far(prime, [], [1, 1], place) for place in [0, 1, 2, 3, HUGE]], [1, 1, 0, 0, 0])

    def test_a_long_rule_far_off(self):
        rule = numbers(997, 60, 9)
        row = numbers(997, 70, 10)
        self.assertEqual(far(997, rule, row, 3000), plain_go_on(997, rule, row, 2931)[3000])

    def test_all_answers_are_rests(self):
        for prime in SOME_PRIMES:
            for place in [0, 4, 5, 6, 10 ** 40]:
                told = far(prime, numbers(prime, 5, 1), numbers(prime, 5, 2), place)
                self.assertTrue(type(told) is int and 0 <= told < prime)


if __name__ == "__main__":
    unittest.main()
