"""Inputs that several tests share, made without chance so that each run is the same."""

import collections
import decimal
import fractions

PRIMES = [n for n in range(2, 998) if all(n % k for k in range(2, n))]
SOME_PRIMES = [2, 3, 5, 7, 31, 101, 991, 997]
HUGE = 10 ** 5000


class Odd:
    """A thing of a kind that the program has never heard of, which can't be shown."""

    def __repr__(self):
        raise RuntimeError("not to be shown")

    __str__ = __repr__


def no_numbers():
    return [
        True, False, None, 1.0, 2.0, 0.5, float("nan"), float("inf"), 1j, "1", "2", "", b"2",
        [], [2], (), (2,), {}, {2: 2}, set(), {2}, range(3), object(), Odd(), int, len,
        decimal.Decimal(2), fractions.Fraction(2), iter([2]), ...,
    ]


def no_lists():
    return [
        True, False, None, 0, 1, 1.5, HUGE, "", "1", "0 1", b"", b"\x01", bytearray(b"\x01"),
        (), (0,), (0, 1), {}, {0: 1}, set(), {0, 1}, frozenset(), range(2), iter([0, 1]),
        (n for n in [0, 1]), collections.deque([0, 1]), {0: 1}.keys(), object(), Odd(), list, ...,
    ]


def no_rests(prime):
    return no_numbers() + [-1, -2, -prime, -HUGE, prime, prime + 1, 2 * prime, HUGE]


def bad_lists(prime):
    """What is no list of rests by the prime: other kinds, and one wrong thing at each place."""
    found = no_lists()
    for wrong in no_rests(prime):
        found.extend([[wrong], [wrong, 0, 1], [0, wrong, 1], [0, 1, wrong]])
    endless = [0]
    endless.append(endless)
    found.append(endless)
    return found


def bad_primes():
    below = [-HUGE, -997, -7, -2, -1, 0, 1]
    between = [n for n in range(4, 998) if n not in PRIMES]
    beyond = [998, 999, 1000, 1009, 1013, 7919, 2 ** 61 - 1, HUGE]
    return no_numbers() + below + between + beyond


def numbers(prime, count, seed):
    """So many rests, well mixed, and always the same for the same seed."""
    state = seed * 7919 + prime * 31 + count
    found = []
    for _ in range(count):
        state = (state * 6364136223846793005 + 1442695040888963407) % 2 ** 64
        found.append((state >> 33) % prime)
    return found


def plain_due(prime, rule, row, place):
    total = 0
    for k in range(len(rule)):
        total += rule[k] * row[place - 1 - k]
    return total % prime


def plain_go_on(prime, rule, row, many):
    told = list(row)
    for _ in range(many):
        told.append(plain_due(prime, rule, told, len(told)))
    return told


def plain_makes(prime, rule, row):
    return all(row[k] == plain_due(prime, rule, row, k) for k in range(len(rule), len(row)))
