"""Inputs that several tests share, made without chance so that each run is the same."""

import collections
import decimal
import fractions
import itertools

PRIMES = [n for n in range(2, 998) if all(n % k for k in range(2, n))]
SOME_PRIMES = [2, 3, 5, 7, 31, 101, 991, 997]
HUGE = 10 ** 5000


class Odd:
    """A thing of a kind that the program has never heard of, which can't be shown."""

    def __repr__(self):
        raise RuntimeError("not to be shown")

    __str__ = __repr__


def no_numbers():
    return [
        True, False, None, 1.0, 2.0, 0.5, float("nan"), float("inf"), 1j, "1", "2", "", b"2",
        [], [2], (), (2,), {}, {2: 2}, set(), {2}, range(3), object(), Odd(), int, len,
        decimal.Decimal(2), fractions.Fraction(2), iter([2]), ...,
    ]


def no_lists():
    return [
        True, False, None, 0, 1, 1.5, HUGE, "", "1", "0 1", b"", b"\x01", bytearray(b"\x01"),
        (), (0,), (0, 1), {}, {0: 1}, set(), {0, 1}, frozenset(), range(2), iter([0, 1]),
        (n for n in [0, 1]), collections.deque([0, 1]), {0: 1}.keys(), object(), Odd(), list, ...,
    ]


def no_rests(prime):
    return no_numbers() + [-1, -2, -prime, -HUGE, prime, prime + 1, 2 * prime, HUGE]


def bad_lists(prime):
    """What is no list of rests by the prime: other kinds, and one wrong thing at each place."""
    found = no_lists()
    for wrong in no_rests(prime):
        found.extend([[wrong], [wrong, 0, 1], [0, wrong, 1], [0, 1, wrong]])
    endless = [0]
    endless.append(endless)
    found.append(endless)
    return found


def bad_primes():
    below = [-HUGE, -997, -7, -2, -1, 0, 1]
    between = [n for n in range(4, 998) if n not in PRIMES]
    beyond = [998, 999, 1000, 1009, 1013, 7919, 2 ** 61 - 1, HUGE]
    return no_numbers() + below + between + beyond


def numbers(prime, count, seed):
    """So many rests, well mixed, and always the same for the same seed."""
    state = seed * 7919 + prime * 31 + count
    found = []
    for _ in range(count):
        state = (state * 6364136223846793005 + 1442695040888963407) % 2 ** 64
        found.append((state >> 33) % prime)
    return found


def plain_due(prime, rule, row, place):
    total = 0
    for k in range(len(rule)):
        total += rule[k] * row[place - 1 - k]
    return total % prime


def plain_go_on(prime, rule, row, many):
    told = list(row)
    for _ in range(many):
        told.append(plain_due(prime, rule, told, len(told)))
    return told


def plain_makes(prime, rule, row):
    return all(row[k] == plain_due(prime, rule, row, k) for k in range(len(rule), len(row)))


def small_lists(prime, longest):
    """Every list of rests of at most that length."""
    return [list(rests) for n in range(longest + 1) for rests in itertools.product(range(prime), repeat=n)]


def plain_is_least(prime, row, rule, shorter, place):
    """Point 3 word for word."""
    if not all(0 <= rest < prime for rest in rule + shorter):
        return False
    if not plain_makes(prime, rule, row):
        return False
    if rule == []:
        return (shorter, place) == ([], -1)
    return (
        len(shorter) < len(rule)
        and 0 <= place < len(row)
        and plain_makes(prime, shorter, row[:place])
        and place >= len(shorter)
        and row[place] != plain_due(prime, shorter, row, place)
        and len(rule) + len(shorter) == place + 1
    )


def plain_is_only(prime, row, rule, shorter, place):
    return plain_is_least(prime, row, rule, shorter, place) and 2 * len(rule) <= len(row)


def plain_is_another(prime, row, one, other, shorter, place):
    return (
        one != other
        and len(one) == len(other)
        and plain_is_least(prime, row, one, shorter, place)
        and plain_is_least(prime, row, other, shorter, place)
    )


def made_rows(prime, longest, count):
    """Rows of that count: each made by a rule of at most that length, or so but for one of its last numbers."""
    found = []
    for length in range(longest + 1):
        rule = numbers(prime, length, 3)
        row = plain_go_on(prime, rule, numbers(prime, length, 4), count)[:count]
        found.append(row)
        for back in range(1, min(4, count) + 1):
            other = list(row)
            other[-back] = (other[-back] + 1) % prime
            found.append(other)
    return found


def sparse_rows(prime, count):
    """Rows of noughts, but for one or two places."""
    found = [[0] * count]
    for first in range(count):
        for second in range(first, count):
            row = [0] * count
            row[first] = 1
            row[second] = prime - 1
            found.append(row)
    return found


def many_rows():
    """Pairs of a prime and a row, of many sorts."""
    found = [(2, row) for row in small_lists(2, 9)] + [(3, row) for row in small_lists(3, 6)]
    found += [(5, row) for row in small_lists(5, 3)]
    for prime in SOME_PRIMES:
        found += [(prime, numbers(prime, count, seed)) for count in range(12) for seed in range(6)]
        found += [(prime, row) for count in [1, 2, 7, 16, 17] for row in made_rows(prime, 6, count)]
        found += [(prime, row) for row in sparse_rows(prime, 9)]
    found += [(prime, [0] * count + [1] + [0] * more) for prime in [2, 7] for count in range(5) for more in range(9)]
    return found


def long_rows():
    found = [(prime, numbers(prime, count, 5)) for prime in SOME_PRIMES for count in [100, 301]]
    found += [(prime, row) for prime in SOME_PRIMES for row in made_rows(prime, 3, 200)]
    found += [(997, [0] * 500), (997, [0] * 499 + [1]), (2, [0] * 250 + numbers(2, 100, 6)), (997, [996] * 600)]
    found.append((997, numbers(997, 1200, 7)))
    return found
