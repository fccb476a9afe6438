import unittest

from rulerow.answers import Another, Answer, Least, Only
from rulerow.least import least, unlike
from rulerow.rules import backwards, both, makes
from tests.samples import (
    SOME_PRIMES, long_rows, many_rows, numbers, plain_is_another, plain_is_least, plain_is_only, plain_makes,
    small_lists,
)


def are_rests(prime, numbers_told):
    return type(numbers_told) is list and all(type(n) is int and 0 <= n < prime for n in numbers_told)


def least_fields(answer):
    return [answer.rule, answer.shorter, answer.place]


def another_fields(answer):
    return [answer.one, answer.other, answer.shorter, answer.place]


def rules_that_make(prime, row, length):
    """How many rules of that length make the row: what is due is solved for, step by step."""
    lines = [[row[k - 1 - j] for j in range(length)] + [row[k]] for k in range(length, len(row))]
    solved = 0
    for column in range(length):
        leading = next((k for k in range(solved, len(lines)) if lines[k][column] != 0), None)
        if leading is None:
            continue
        lines[solved], lines[leading] = lines[leading], lines[solved]
        share = pow(lines[solved][column], -1, prime)
        lines[solved] = [n * share % prime for n in lines[solved]]
        for k in range(len(lines)):
            if k != solved:
                times = lines[k][column]
                lines[k] = [(n - times * m) % prime for n, m in zip(lines[k], lines[solved])]
        solved += 1
    if any(line[-1] != 0 for line in lines[solved:]):
        return 0
    return prime ** (length - solved)


class Holds(unittest.TestCase):
    def check_least(self, prime, row):
        answer = least(prime, row)
        self.assertIs(type(answer), Least)
        self.assertTrue(are_rests(prime, answer.rule) and are_rests(prime, answer.shorter), (prime, row))
        self.assertIs(type(answer.place), int)
        self.assertTrue(plain_is_least(prime, row, *least_fields(answer)), (prime, row))
        self.assertIs(answer.shows(prime, row), True, (prime, row))
        return answer

    def check_unlike(self, prime, row):
        answer = unlike(prime, row)
        self.assertIn(type(answer), [Only, Another])
        if type(answer) is Only:
            self.assertTrue(are_rests(prime, answer.rule) and are_rests(prime, answer.shorter), (prime, row))
            self.assertTrue(plain_is_only(prime, row, *least_fields(answer)), (prime, row))
        else:
            self.assertTrue(are_rests(prime, answer.one) and are_rests(prime, answer.other), (prime, row))
            self.assertTrue(are_rests(prime, answer.shorter), (prime, row))
            self.assertTrue(plain_is_another(prime, row, *another_fields(answer)), (prime, row))
        self.assertIs(type(answer.place), int)
        self.assertIs(answer.shows(prime, row), True, (prime, row))
        return answer


class KnownByHand(unittest.TestCase):
    def test_an_only_rule(self):
        self.assertEqual(least_fields(least(7, [0, 1, 1, 2, 3, 5, 1])), [[1, 1], [], 1])
        self.assertEqual(least_fields(unlike(7, [0, 1, 1, 2, 3, 5, 1])), [[1, 1], [], 1])
        self.assertEqual(least_fields(unlike(997, [1, 2, 4, 8])), [[2], [], 0])
        self.assertEqual(least_fields(unlike(5, [1, 1, 2, 3])), [[1, 1], [1], 2])

    def test_noughts_alone(self):
        for prime in SOME_PRIMES:
            for count in [0, 1, 2, 3, 50]:
                self.assertEqual(least_fields(least(prime, [0] * count)), [[], [], -1])
                only = unlike(prime, [0] * count)
                self.assertIs(type(only), Only)
                self.assertEqual(least_fields(only), [[], [], -1])

    def test_one_number(self):
        for prime in SOME_PRIMES:
            answer = least(prime, [prime - 1])
            self.assertEqual((len(answer.rule), answer.shorter, answer.place), (1, [], 0))
            answer = unlike(prime, [prime - 1])
            self.assertIs(type(answer), Another)
            self.assertEqual((len(answer.one), len(answer.other), answer.shorter, answer.place), (1, 1, [], 0))
            self.assertNotEqual(answer.one, answer.other)

    def test_a_number_behind_noughts_alone(self):
        for prime in SOME_PRIMES:
            answer = least(prime, [0] * 6 + [1])
            self.assertEqual((len(answer.rule), answer.shorter, answer.place), (7, [], 6))
            self.assertIs(type(unlike(prime, [0] * 6 + [1])), Another)

    def test_the_last_number_breaks_the_rule(self):
        answer = least(5, [1, 2, 4, 3, 1, 0])
        self.assertEqual((len(answer.rule), answer.shorter, answer.place), (5, [2], 5))
        self.assertIs(type(unlike(5, [1, 2, 4, 3, 1, 0])), Another)

    def test_twice_the_length_and_one_less(self):
        row = [1, 1, 0, 1]
        self.assertIs(type(unlike(2, row)), Only)
        self.assertEqual(len(unlike(2, row).rule), 2)
        self.assertIs(type(unlike(2, row[:-1])), Another)
        self.assertEqual(len(unlike(2, row[:-1]).one), 2)


class EveryRow(Holds):
    def test_many_rows(self):
        for prime, row in many_rows():
            answer = self.check_least(prime, row)
            told = self.check_unlike(prime, row)
            self.assertIs(type(told) is Only, 2 * len(answer.rule) <= len(row), (prime, row))

    def test_long_rows(self):
        for prime, row in long_rows():
            answer = self.check_least(prime, row)
            told = self.check_unlike(prime, row)
            self.assertIs(type(told) is Only, 2 * len(answer.rule) <= len(row))

    def test_no_shorter_rule_makes_a_small_row(self):
        for prime, count in [(2, 7), (3, 5)]:
            rules = small_lists(prime, count)
            for row in small_lists(prime, count):
                making = [rule for rule in rules if len(rule) <= len(row) and plain_makes(prime, rule, row)]
                shortest = [rule for rule in making if len(rule) == len(making[0])]
                self.assertIn(least(prime, row).rule, shortest)
                told = unlike(prime, row)
                if len(shortest) == 1:
                    self.assertIs(type(told), Only, (prime, row))
                    self.assertEqual([told.rule], shortest)
                else:
                    self.assertIs(type(told), Another, (prime, row))
                    self.assertIn(told.one, shortest)
                    self.assertIn(told.other, shortest)

    def test_how_many_rules_are_as_short(self):
        for prime, row in many_rows()[1000::3]:
            length = len(least(prime, row).rule)
            if length > 0:
                self.assertEqual(rules_that_make(prime, row, length - 1), 0, (prime, row))
            ways = rules_that_make(prime, row, length)
            self.assertGreaterEqual(ways, 1, (prime, row))
            self.assertIs(type(unlike(prime, row)) is Only, ways == 1, (prime, row))

    def test_a_row_long_enough_tells_the_rule_that_made_it(self):
        for prime in SOME_PRIMES:
            for length in range(1, 9):
                rule = numbers(prime, length, 1)
                row = [0] * (length - 1) + [1]
                while len(row) < 2 * length:
                    row.append(sum(a * b for a, b in zip(rule, row[::-1])) % prime)
                self.assertEqual(unlike(prime, row).rule, rule)
                self.assertEqual(least(prime, row).rule, rule)


class OtherRows(Holds):
    def check_other(self, prime, row, other):
        answer = least(prime, row)
        self.assertIs(answer.shows(prime, other), plain_is_least(prime, other, *least_fields(answer)), (row, other))
        answer = unlike(prime, row)
        if type(answer) is Only:
            right = plain_is_only(prime, other, *least_fields(answer))
        else:
            right = plain_is_another(prime, other, *another_fields(answer))
        self.assertIs(answer.shows(prime, other), right, (row, other))
        return answer.shows(prime, other)

    def test_backwards_longer_and_shorter(self):
        seen = {True: 0, False: 0}
        for prime, row in many_rows()[::2] + long_rows()[::9]:
            others = [row[::-1], row[:-1], row[1:], row + [0], row + [prime - 1], [0] + row, []]
            for other in others:
                seen[self.check_other(prime, row, other)] += 1
        self.assertGreater(seen[True], 500)
        self.assertGreater(seen[False], 500)

    def test_one_number_changed(self):
        for prime, row in many_rows()[::5]:
            for place in range(len(row)):
                other = list(row)
                other[place] = (other[place] + 1) % prime
                self.check_other(prime, row, other)

    def test_by_another_prime(self):
        for row in small_lists(2, 6):
            for prime in [3, 5, 997]:
                answer = least(2, row)
                self.assertIs(answer.shows(prime, row), plain_is_least(prime, row, *least_fields(answer)))


class Together(unittest.TestCase):
    """What the points on rules say, held against the shortest ones."""

    def test_an_only_rule_backwards_is_that_of_the_row_backwards(self):
        for prime, row in many_rows()[1000::4]:
            answer = unlike(prime, row)
            if type(answer) is Only and answer.rule != [] and answer.rule[-1] != 0:
                self.assertEqual(unlike(prime, row[::-1]).rule, backwards(prime, answer.rule))

    def test_sums_of_rows_are_made_by_both_rules(self):
        for prime in SOME_PRIMES:
            one = numbers(prime, 12, 1)
            other = [2 * n % prime for n in range(12)]
            rule = both(prime, least(prime, one).rule, least(prime, other).rule)
            row = [(a + b) % prime for a, b in zip(one, other)]
            self.assertTrue(makes(prime, rule, row))
            self.assertLessEqual(len(least(prime, row).rule), len(rule))


class Kinds(unittest.TestCase):
    def test_the_classes(self):
        for kind in [Least, Only, Another]:
            self.assertEqual(kind.__bases__, (Answer,))

    def test_the_same_row_tells_the_same(self):
        for prime, row in many_rows()[::40]:
            self.assertEqual(vars(least(prime, row)), vars(least(prime, list(row))))
            self.assertEqual(vars(unlike(prime, row)), vars(unlike(prime, list(row))))


if __name__ == "__main__":
    unittest.main()
