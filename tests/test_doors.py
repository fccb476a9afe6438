"""What is refused, by which error, and that nothing handed in is changed or kept."""

import copy
import unittest

from rulerow.errors import BadPlace, BadPrime, BadRow, BadRule, BadText, NoWay, TooFew
from rulerow.least import least, unlike
from rulerow.rules import backwards, both, far, go_on, makes
from rulerow.texts import read, written
from tests.samples import HUGE, SOME_PRIMES, bad_lists, bad_primes, no_numbers, numbers


class Doors(unittest.TestCase):
    def refused(self, error, function, *given):
        with self.assertRaises(error) as caught:
            function(*given)
        self.assertIs(type(caught.exception), error)


class WrongThings(Doors):
    def test_no_prime(self):
        for wrong in bad_primes():
            self.refused(BadPrime, makes, wrong, [1], [1])
            self.refused(BadPrime, go_on, wrong, [1], [1], 1)
            self.refused(BadPrime, far, wrong, [1], [1], 1)
            self.refused(BadPrime, both, wrong, [1], [1])
            self.refused(BadPrime, backwards, wrong, [1])
            self.refused(BadPrime, least, wrong, [1])
            self.refused(BadPrime, unlike, wrong, [1])
            self.refused(BadPrime, written, wrong, [1])

    def test_no_prime_though_nothing_is_reckoned(self):
        for wrong in [True, 0, 1, 4, 1009, None]:
            self.refused(BadPrime, makes, wrong, [], [])
            self.refused(BadPrime, go_on, wrong, [], [], 0)
            self.refused(BadPrime, far, wrong, [], [], 0)
            self.refused(BadPrime, both, wrong, [], [])
            self.refused(BadPrime, backwards, wrong, [])
            self.refused(BadPrime, least, wrong, [])
            self.refused(BadPrime, unlike, wrong, [])
            self.refused(BadPrime, written, wrong, [])

    def test_no_rule(self):
        for prime in [2, 5, 997]:
            for wrong in bad_lists(prime):
                self.refused(BadRule, makes, prime, wrong, [1, 1, 1])
                self.refused(BadRule, go_on, prime, wrong, [1, 1, 1], 1)
                self.refused(BadRule, far, prime, wrong, [1, 1, 1], 1)
                self.refused(BadRule, both, prime, wrong, [1])
                self.refused(BadRule, both, prime, [1], wrong)
                self.refused(BadRule, both, prime, wrong, wrong)
                self.refused(BadRule, backwards, prime, wrong)

    def test_no_row(self):
        for prime in [2, 5, 997]:
            for wrong in bad_lists(prime):
                self.refused(BadRow, makes, prime, [1], wrong)
                self.refused(BadRow, go_on, prime, [1], wrong, 1)
                self.refused(BadRow, far, prime, [1], wrong, 1)
                self.refused(BadRow, makes, prime, [], wrong)
                self.refused(BadRow, go_on, prime, [], wrong, 0)
                self.refused(BadRow, far, prime, [], wrong, 0)
                self.refused(BadRow, least, prime, wrong)
                self.refused(BadRow, unlike, prime, wrong)
                self.refused(BadRow, written, prime, wrong)

    def test_a_wrong_rest_behind_the_first_wrong_number_of_a_row(self):
        self.refused(BadRow, makes, 5, [1], [1, 2, 3, 5])
        self.refused(BadRow, makes, 5, [1, 1, 1, 1], [1, 5])

    def test_a_rule_longer_than_the_row(self):
        for prime in SOME_PRIMES:
            for length in range(1, 5):
                for count in range(length):
                    rule = numbers(prime, length, 1)
                    row = numbers(prime, count, 2)
                    self.refused(TooFew, go_on, prime, rule, row, 0)
                    self.refused(TooFew, go_on, prime, rule, row, 3)
                    self.refused(TooFew, far, prime, rule, row, 0)
                    self.refused(TooFew, far, prime, rule, row, 3)

    def test_no_count_and_no_place(self):
        for wrong in no_numbers() + [-1, -2, -997, -HUGE]:
            for rule, row in [([], []), ([], [1, 2]), ([1], [1]), ([1, 2], [3, 4, 0])]:
                self.refused(BadPlace, go_on, 5, rule, row, wrong)
                self.refused(BadPlace, far, 5, rule, row, wrong)

    def test_no_way(self):
        self.refused(NoWay, backwards, 5, [1, 2, 0])

    def test_no_text(self):
        for wrong in no_numbers() + [7, HUGE, [], ["7:"], (7, []), "7", "7: 7", "8: 1", "7:1"]:
            self.refused(BadText, read, wrong)


class WhichComesFirst(Doors):
    def test_makes(self):
        self.refused(BadPrime, makes, 4, [9], [1])
        self.refused(BadPrime, makes, 4, [1], None)
        self.refused(BadPrime, makes, None, None, None)
        self.refused(BadRule, makes, 5, None, None)
        self.refused(BadRule, makes, 5, [1, 5], [1, True])

    def test_go_on_and_far(self):
        for function in [go_on, far]:
            self.refused(BadPrime, function, None, None, None, None)
            self.refused(BadPrime, function, 4, [True], [1], 1)
            self.refused(BadPrime, function, 4, [1], [True], 1)
            self.refused(BadPrime, function, 4, [1, 1], [1], 1)
            self.refused(BadPrime, function, 4, [1], [1], -1)
            self.refused(BadRule, function, 5, None, None, None)
            self.refused(BadRule, function, 5, [5], [5], 1)
            self.refused(BadRule, function, 5, [1, 5], [1], 1)
            self.refused(BadRule, function, 5, [5], [1], -1)
            self.refused(BadRow, function, 5, [1], None, None)
            self.refused(BadRow, function, 5, [1, 1], [5], 1)
            self.refused(BadRow, function, 5, [1, 1, 1], (), 1)
            self.refused(BadRow, function, 5, [1], [5], -1)
            self.refused(TooFew, function, 5, [1], [], None)
            self.refused(TooFew, function, 5, [1, 1], [1], -1)
            self.refused(TooFew, function, 5, [1, 1], [1], True)

    def test_both_and_backwards(self):
        self.refused(BadPrime, both, 4, [9], [1])
        self.refused(BadPrime, both, 4, [1], [9])
        self.refused(BadPrime, both, None, None, None)
        self.refused(BadPrime, backwards, None, None)
        self.refused(BadPrime, backwards, 4, [9])
        self.refused(BadPrime, backwards, 4, [0])
        self.refused(BadRule, backwards, 5, [5, 0])
        self.refused(BadRule, backwards, 5, [1, False])
        self.refused(BadRule, backwards, 5, [1, 5])

    def test_least_unlike_and_written(self):
        for function in [least, unlike, written]:
            self.refused(BadPrime, function, None, None)
            self.refused(BadPrime, function, 4, [9])
            self.refused(BadPrime, function, True, [True])
            self.refused(BadPrime, function, 1009, (0, 1))
            self.refused(BadPrime, function, [1], 5)
            self.refused(BadRow, function, 5, [1, 5])


class Names(unittest.TestCase):
    def test_the_arguments_are_called_as_the_interface_says(self):
        self.assertIs(makes(prime=5, rule=[1], row=[1, 1]), True)
        self.assertEqual(go_on(prime=5, rule=[1], row=[2], many=1), [2, 2])
        self.assertEqual(far(prime=5, rule=[1], row=[2], place=9), 2)
        self.assertEqual(both(prime=5, one=[1], other=[]), [1])
        self.assertEqual(backwards(prime=5, rule=[2]), [3])
        self.assertEqual(least(prime=5, row=[1, 2]).rule, [2])
        self.assertEqual(unlike(prime=5, row=[1, 2]).rule, [2])
        self.assertEqual(written(prime=5, row=[1, 2]), "5: 1 2")
        self.assertEqual(read(text="5: 1 2"), (5, [1, 2]))


def cases():
    """Each function with what is handed in ahead of it being called."""
    return [
        (makes, [7, [1, 1], [0, 1, 1, 2]]),
        (makes, [7, [], []]),
        (go_on, [7, [1, 1], [0, 1], 3]),
        (go_on, [7, [1, 1], [0, 1], 0]),
        (go_on, [7, [], [], 0]),
        (go_on, [7, [], [], 2]),
        (far, [7, [1, 1], [0, 1], 10 ** 20]),
        (far, [7, [1, 1], [0, 1], 1]),
        (both, [7, [1, 2], [3]]),
        (both, [7, [1, 2], []]),
        (both, [7, [], [1, 2]]),
        (both, [7, [], []]),
        (backwards, [7, [1, 2]]),
        (backwards, [7, [1]]),
        (backwards, [7, []]),
        (written, [7, [1, 2]]),
        (written, [7, []]),
        (read, ["7: 1 2"]),
    ] + [(least_told, [7, row]) for row in rows()] + [(unlike_told, [7, row]) for row in rows()]


def rows():
    return [[], [0, 0], [1], [0, 0, 1], [1, 2, 4, 1], [1, 2, 4, 2], [0, 1, 1, 2, 3, 5, 1], [3, 1, 4, 1, 5]]


def least_told(prime, row):
    return vars(least(prime, row))


def unlike_told(prime, row):
    return vars(unlike(prime, row))


def lists_within(told):
    """The lists that may be changed in what a function told."""
    if isinstance(told, list):
        return [told]
    if isinstance(told, dict):
        return [thing for thing in told.values() if isinstance(thing, list)]
    if isinstance(told, tuple):
        return [thing for thing in told if isinstance(thing, list)]
    return []


def spoil(thing):
    thing.append(5)
    thing[0] = 6


class NothingChangedOrKept(unittest.TestCase):
    def test_what_is_handed_in_stays_as_it_was(self):
        for function, given in cases():
            earlier = copy.deepcopy(given)
            function(*given)
            self.assertEqual(given, earlier)

    def test_what_is_refused_stays_as_it_was(self):
        for function, given in [
            (makes, [7, [1, 1], [0, 7]]), (go_on, [7, [1, 1], [0], 3]), (far, [7, [1, 1], [0, 1], -1]),
            (both, [7, [1], [7]]), (backwards, [7, [1, 0]]), (least, [7, [1, 7]]), (unlike, [7, [1, 7]]),
            (written, [7, [1, 7]]),
        ]:
            earlier = copy.deepcopy(given)
            self.assertRaises(ValueError, function, *given)
            self.assertEqual(given, earlier)

    def test_changing_what_was_told_changes_nothing_else(self):
        for function, given in cases():
            earlier = copy.deepcopy(given)
            told = function(*given)
            kept = copy.deepcopy(told)
            for thing in lists_within(told):
                spoil(thing)
            self.assertEqual(given, earlier)
            self.assertEqual(function(*given), kept)

    def test_changing_one_list_told_leaves_the_others(self):
        for function, given in cases():
            lists = lists_within(function(*given))
            for k, thing in enumerate(lists):
                others = copy.deepcopy(lists[:k] + lists[k + 1:])
                spoil(thing)
                self.assertEqual(lists[:k] + lists[k + 1:], others)

    def test_changing_what_was_handed_in_changes_nothing_told(self):
        for function, given in cases():
            fresh = copy.deepcopy(given)
            told = function(*given)
            kept = copy.deepcopy(told)
            for thing in given:
                if isinstance(thing, list):
                    spoil(thing)
            self.assertEqual(told, kept)
            self.assertEqual(function(*fresh), kept)

    def test_one_list_for_both(self):
        same = [1, 2]
        self.assertIs(makes(7, same, same), True)
        self.assertEqual(go_on(7, same, same, 1), [1, 2, 4])
        self.assertEqual(both(7, same, same), both(7, [1, 2], [1, 2]))
        self.assertEqual(same, [1, 2])


if __name__ == "__main__":
    unittest.main()
