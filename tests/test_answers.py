"""Answers made by hand, right and wrong, and asked whether they show it."""

import copy
import itertools
import unittest

from rulerow.answers import Another, Answer, Least, Only
from rulerow.least import least, unlike
from tests.samples import (
    HUGE, SOME_PRIMES, many_rows, plain_is_another, plain_is_least, plain_is_only, small_lists,
)

ROW = [1, 1, 2, 3, 5, 1, 6, 0]


def changed_lists(prime, numbers):
    """The list with one thing changed in it, in many ways."""
    found = [numbers + [0], numbers + [1], [0] + numbers, numbers[:-1], numbers[1:], [], numbers[::-1], numbers * 2]
    for k in range(len(numbers)):
        for rest in [numbers[k] + 1, numbers[k] - 1, numbers[k] + prime, numbers[k] - prime, -1, prime, HUGE, -HUGE]:
            found.append(numbers[:k] + [rest] + numbers[k + 1:])
        for j in range(k):
            swapped = list(numbers)
            swapped[k], swapped[j] = numbers[j], numbers[k]
            found.append(swapped)
    return found


def changed_places(place, count):
    return [place - 1, place + 1, place + 2, -place, -1, -2, 0, count - 1, count, count + 1, place - count, HUGE, -HUGE]


def changed_fields(prime, row, fields):
    """The fields of an answer with one of them changed, or two exchanged."""
    for k, field in enumerate(fields):
        others = changed_lists(prime, field) if isinstance(field, list) else changed_places(field, len(row))
        for other in others:
            yield fields[:k] + [other] + fields[k + 1:]
    lists = len(fields) - 1
    for k, j in itertools.combinations(range(lists), 2):
        swapped = list(fields)
        swapped[k], swapped[j] = fields[j], fields[k]
        yield swapped


class MadeByHand(unittest.TestCase):
    def test_right(self):
        self.assertIs(Least([1, 1], [1], 2).shows(7, ROW), True)
        self.assertIs(Only([1, 1], [1], 2).shows(7, ROW), True)
        self.assertIs(Least([0, 3], [], 1).shows(7, [0, 1]), True)
        self.assertIs(Another([0, 3], [6, 6], [], 1).shows(7, [0, 1]), True)
        self.assertIs(Least([], [], -1).shows(7, []), True)
        self.assertIs(Only([], [], -1).shows(7, []), True)
        self.assertIs(Least([], [], -1).shows(2, [0, 0, 0]), True)
        self.assertIs(Only([], [], -1).shows(2, [0, 0, 0]), True)

    def test_the_rule_makes_another_row(self):
        self.assertIs(Least([1, 2], [1], 2).shows(7, ROW), False)
        self.assertIs(Only([1, 2], [1], 2).shows(7, ROW), False)
        self.assertIs(Least([1, 1], [1], 2).shows(7, ROW + [5]), False)
        self.assertIs(Least([], [], -1).shows(7, [0, 1]), False)
        self.assertIs(Only([], [], -1).shows(7, [1]), False)

    def test_the_rule_is_not_shortest(self):
        self.assertIs(Least([1, 1, 0], [1], 3).shows(7, ROW), False)
        self.assertIs(Least([1, 1, 0], [1], 2).shows(7, ROW), False)
        self.assertIs(Least([0], [], 0).shows(7, [0, 0]), False)
        self.assertIs(Least([0], [], -1).shows(7, [0, 0]), False)
        self.assertIs(Another([0], [1], [], 0).shows(7, [0]), False)

    def test_the_shorter_one_must_make_what_lies_ahead(self):
        self.assertIs(Least([1, 1], [2], 2).shows(7, ROW), False)

    def test_the_shorter_one_must_fail_at_the_place(self):
        self.assertIs(Least([2, 6], [1], 2).shows(7, [1, 1, 1]), False)
        self.assertIs(Only([1], [], 0).shows(7, [0, 0, 0]), False)

    def test_the_shorter_one_must_be_shorter(self):
        self.assertIs(Least([1], [2], 1).shows(7, [1, 1, 1]), False)
        self.assertIs(Least([1, 1], [0, 2], 3).shows(7, ROW), False)
        self.assertIs(Least([1, 1], [0, 0, 3], 4).shows(7, ROW), False)
        self.assertIs(Only([1], [2], 1).shows(7, [1, 1, 1]), False)

    def test_the_lengths_are_one_more_than_the_place(self):
        for place in [-3, -2, -1, 0, 1, 3, 4, 7, 8, 9]:
            self.assertIs(Least([1, 1], [1], place).shows(7, ROW), False)
            self.assertIs(Only([1, 1], [1], place).shows(7, ROW), False)

    def test_a_place_beyond_the_row(self):
        self.assertIs(Least([1, 1], [], 1).shows(7, [0]), False)
        self.assertIs(Least([1, 2, 3], [], 2).shows(7, [0, 0]), False)
        self.assertIs(Least([1], [], 0).shows(7, []), False)

    def test_the_rule_of_none_has_none_beside_it(self):
        for shorter, place in [([], 0), ([], -2), ([], 1), ([0], -1), ([0], 0), ([1], -1), ([0, 0], 1)]:
            self.assertIs(Least([], shorter, place).shows(7, [0, 0]), False)
            self.assertIs(Only([], shorter, place).shows(7, [0, 0]), False)
            self.assertIs(Another([], [], shorter, place).shows(7, [0, 0]), False)
        self.assertIs(Another([], [], [], -1).shows(7, [0, 0]), False)
        self.assertIs(Another([], [], [], -1).shows(7, []), False)

    def test_only_up_to_half_of_the_row(self):
        self.assertIs(Only([1, 1], [1], 2).shows(7, ROW[:4]), True)
        self.assertIs(Only([1, 1], [1], 2).shows(7, ROW[:3]), False)
        self.assertIs(Least([1, 1], [1], 2).shows(7, ROW[:3]), True)

    def test_another_needs_two_unlike_rules_of_one_length(self):
        self.assertIs(Another([1, 1], [0, 2], [1], 2).shows(7, ROW[:3]), True)
        self.assertIs(Another([0, 2], [1, 1], [1], 2).shows(7, ROW[:3]), True)
        self.assertIs(Another([1, 1], [1, 1], [1], 2).shows(7, ROW[:3]), False)
        self.assertIs(Another([1, 1], [0, 2, 0], [1], 2).shows(7, ROW[:3]), False)
        self.assertIs(Another([1, 1, 0], [1, 1], [1], 2).shows(7, ROW[:3]), False)
        self.assertIs(Another([1, 1], [0, 3], [1], 2).shows(7, ROW[:3]), False)
        self.assertIs(Another([0, 3], [1, 1], [1], 2).shows(7, ROW[:3]), False)
        self.assertIs(Another([1, 1], [0, 2], [1], 2).shows(7, ROW[:4]), False)

    def test_rests_beyond_the_prime_are_none(self):
        self.assertIs(Least([8, 1], [1], 2).shows(7, ROW), False)
        self.assertIs(Least([1, -6], [1], 2).shows(7, ROW), False)
        self.assertIs(Least([1, 1], [8], 2).shows(7, ROW), False)
        self.assertIs(Least([1, 1], [-6], 2).shows(7, ROW), False)
        self.assertIs(Only([8, 1], [1], 2).shows(7, ROW), False)
        self.assertIs(Another([1, 1], [8, 1], [1], 2).shows(7, ROW[:3]), False)
        self.assertIs(Another([8, 1], [1, 1], [1], 2).shows(7, ROW[:3]), False)
        self.assertIs(Another([0, 2], [1, 1], [8], 2).shows(7, ROW[:3]), False)
        self.assertIs(Least([0, 7], [], 1).shows(7, [0, 1]), False)
        self.assertIs(Least([HUGE], [], 0).shows(7, [1]), False)

    def test_true_and_false_are_no_numbers(self):
        self.assertIs(Least([0, 3], [], 1).shows(7, [0, 1]), True)
        self.assertIs(Least([0, 3], [], True).shows(7, [0, 1]), False)
        self.assertIs(Least([False, 3], [], 1).shows(7, [0, 1]), False)
        self.assertIs(Least([1, 1], [True], 2).shows(7, ROW), False)

    def test_long_lists(self):
        self.assertIs(Least([1] * 1000, [1] * 999, 1998).shows(7, ROW), False)
        self.assertIs(Least([0] * 1000, [], 999).shows(7, [0] * 999 + [3]), True)
        self.assertIs(Least([0] * 1000, [], 999).shows(7, [0] * 1000), False)


class EverySmallAnswer(unittest.TestCase):
    """Rests from -1 to the prime itself, and places on both sides of the row."""

    def test_least_and_only(self):
        lists = [list(n) for count in range(4) for n in itertools.product([0, 1], repeat=count)]
        lists += [[-1], [2], [0, 2], [-1, 1], [3], [1, 1, 2]]
        rows = small_lists(2, 4)
        right = 0
        for rule, shorter, place in itertools.product(lists, lists, range(-2, 6)):
            for row in rows:
                given = (rule, shorter, place)
                least_told = Least(rule, shorter, place).shows(2, row)
                self.assertIs(least_told, plain_is_least(2, row, rule, shorter, place), (given, row))
                only_told = Only(rule, shorter, place).shows(2, row)
                self.assertIs(only_told, plain_is_only(2, row, rule, shorter, place), (given, row))
                right += least_told
        self.assertGreater(right, 30)

    def test_another(self):
        lists = [[]] + [[n] for n in range(-1, 4)] + [[n, m] for n in range(3) for m in range(3)] + [[3, 0], [-1, 2]]
        rows = small_lists(3, 3)
        right = 0
        for one, other in itertools.product(lists, lists):
            for shorter, place in itertools.product([[], [0], [1], [2], [3]], range(-1, 4)):
                answer = Another(one, other, shorter, place)
                for row in rows[::3]:
                    told = answer.shows(3, row)
                    self.assertIs(told, plain_is_another(3, row, one, other, shorter, place))
                    right += told
        self.assertGreater(right, 30)

    def test_never_both(self):
        rules = small_lists(2, 3)
        for row in small_lists(2, 5):
            told = set()
            for rule, shorter, place in itertools.product(rules, rules, range(-1, 5)):
                if Only(rule, shorter, place).shows(2, row):
                    told.add("only")
                for other in rules:
                    if len(rule) == len(other) and Another(rule, other, shorter, place).shows(2, row):
                        told.add("another")
            self.assertLessEqual(len(told), 1, row)


class Changed(unittest.TestCase):
    def test_answers_told_with_one_field_changed(self):
        seen = {True: 0, False: 0}
        for prime, row in many_rows()[::9]:
            answer = least(prime, row)
            for fields in changed_fields(prime, row, [answer.rule, answer.shorter, answer.place]):
                told = Least(*fields).shows(prime, row)
                self.assertIs(told, plain_is_least(prime, row, *fields), (prime, row, fields))
                self.assertIs(Only(*fields).shows(prime, row), plain_is_only(prime, row, *fields))
                seen[told] += 1
        self.assertGreater(min(seen.values()), 500)

    def test_another_with_one_field_changed(self):
        seen = {True: 0, False: 0}
        for prime, row in many_rows()[::9]:
            answer = unlike(prime, row)
            if type(answer) is Another:
                fields_told = [answer.one, answer.other, answer.shorter, answer.place]
                for fields in changed_fields(prime, row, fields_told):
                    told = Another(*fields).shows(prime, row)
                    self.assertIs(told, plain_is_another(prime, row, *fields), (prime, row, fields))
                    seen[told] += 1
        self.assertGreater(min(seen.values()), 200)


class Fields(unittest.TestCase):
    def test_names_and_kinds(self):
        for kind in [Least, Only]:
            answer = kind(rule=[1, 2], shorter=[3], place=4)
            self.assertIsInstance(answer, Answer)
            self.assertEqual((answer.rule, answer.shorter, answer.place), ([1, 2], [3], 4))
        answer = Another(one=[1, 2], other=[5], shorter=[3], place=4)
        self.assertIsInstance(answer, Answer)
        self.assertEqual((answer.one, answer.other, answer.shorter, answer.place), ([1, 2], [5], [3], 4))
        self.assertIs(Least([], [], -1).shows(prime=7, row=[]), True)
        self.assertIs(Only([], [], -1).shows(prime=7, row=[]), True)
        self.assertIs(Another([], [], [], -1).shows(prime=7, row=[]), False)

    def test_lists_are_copied(self):
        for kind in [Least, Only]:
            rule, shorter = [1, 1], [1]
            answer = kind(rule, shorter, 2)
            rule.append(0)
            shorter[0] = 5
            self.assertEqual((answer.rule, answer.shorter), ([1, 1], [1]))
            self.assertIs(answer.shows(7, ROW), True)
            answer.rule.append(3)
            self.assertEqual(rule, [1, 1, 0])
        one, other, shorter = [1, 1], [0, 2], [1]
        answer = Another(one, other, shorter, 2)
        one[0], other[0], shorter[0] = 4, 4, 4
        self.assertEqual((answer.one, answer.other, answer.shorter), ([1, 1], [0, 2], [1]))
        self.assertIs(answer.shows(7, ROW[:3]), True)

    def test_one_list_for_all_fields(self):
        same = [1]
        for answer in [Least(same, same, 1), Only(same, same, 1)]:
            answer.rule.append(1)
            self.assertEqual(answer.shorter, [1])
        answer = Another(same, same, same, 1)
        answer.one.append(2)
        answer.other.append(3)
        self.assertEqual((answer.one, answer.other, answer.shorter, same), ([1, 2], [1, 3], [1], [1]))

    def test_shows_goes_by_the_fields_as_they_stand_then(self):
        for kind in [Least, Only]:
            answer = kind([1, 1], [1], 2)
            answer.rule[0] = 2
            self.assertIs(answer.shows(7, ROW), False)
            answer.rule = [1, 1]
            self.assertIs(answer.shows(7, ROW), True)
            answer.shorter.append(0)
            self.assertIs(answer.shows(7, ROW), False)
            answer.shorter.pop()
            answer.place = 3
            self.assertIs(answer.shows(7, ROW), False)
            answer.place = 2
            self.assertIs(answer.shows(7, ROW), True)
        answer = Another([1, 1], [0, 2], [1], 2)
        answer.other[0], answer.other[1] = 1, 1
        self.assertIs(answer.shows(7, ROW[:3]), False)
        answer.one = [0, 2]
        self.assertIs(answer.shows(7, ROW[:3]), True)
        answer.place = 1
        self.assertIs(answer.shows(7, ROW[:3]), False)

    def test_shows_changes_nothing(self):
        for prime, row in many_rows()[::25]:
            for answer in [least(prime, row), unlike(prime, row)]:
                fields = copy.deepcopy(vars(answer))
                asked = list(row)
                answer.shows(prime, asked)
                answer.shows(prime, asked)
                self.assertEqual(asked, row)
                self.assertEqual(vars(answer), fields)

    def test_every_prime_is_answered(self):
        for prime in SOME_PRIMES:
            self.assertIs(Least([prime - 1], [], 0).shows(prime, [1, prime - 1, 1]), True)
            self.assertIs(Only([prime - 1], [], 0).shows(prime, [1, prime - 1, 1]), True)
            self.assertIs(Least([prime], [], 0).shows(prime, [1, 0, 0]), False)


if __name__ == "__main__":
    unittest.main()
