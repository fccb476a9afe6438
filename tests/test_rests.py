import unittest

from rulerow.errors import BadPrime, BadRow, BadRule
from rulerow.rests import are_rests, inverse, is_prime, is_rest, is_whole, need_prime, need_row, need_rule
from tests.samples import HUGE, PRIMES, SOME_PRIMES, bad_lists, bad_primes, no_numbers, no_rests, numbers


class TheRests(unittest.TestCase):
    def test_whole_numbers(self):
        for value in [0, 1, -1, 997, HUGE, -HUGE]:
            self.assertIs(is_whole(value), True)
        for value in no_numbers():
            self.assertIs(is_whole(value), False)

    def test_the_primes_are_those_from_2_to_997(self):
        self.assertEqual(len(PRIMES), 168)
        self.assertEqual([n for n in range(-5, 2000) if is_prime(n)], PRIMES)
        for prime in PRIMES:
            need_prime(prime)

    def test_what_is_no_prime(self):
        for value in bad_primes():
            with self.assertRaises(BadPrime):
                need_prime(value)

    def test_rests_lie_from_0_to_one_less_than_the_prime(self):
        for prime in SOME_PRIMES:
            self.assertEqual([n for n in range(-3, prime + 3) if is_rest(prime, n)], list(range(prime)))
            for value in no_rests(prime):
                self.assertIs(is_rest(prime, value), False)

    def test_lists_of_rests(self):
        for prime in SOME_PRIMES:
            for good in [[], [0], [prime - 1], [0] * 5, numbers(prime, 20, 1)]:
                self.assertIs(are_rests(prime, good), True)
                need_rule(prime, good)
                need_row(prime, good)

    def test_what_is_no_list_of_rests(self):
        for prime in [2, 5, 997]:
            for value in bad_lists(prime):
                with self.assertRaises(BadRule):
                    need_rule(prime, value)
                with self.assertRaises(BadRow):
                    need_row(prime, value)

    def test_a_rest_times_its_inverse_is_1(self):
        for prime in PRIMES:
            for rest in range(1, prime):
                told = inverse(prime, rest)
                self.assertTrue(0 < told < prime and told * rest % prime == 1, (prime, rest, told))


if __name__ == "__main__":
    unittest.main()
