"""Primes and rests: what counts as one, and the reckoning with them."""

from rulerow.errors import BadPrime, BadRow, BadRule

LOWEST_PRIME = 2
HIGHEST_PRIME = 997


def is_whole(value):
    # Python counts True and False among the whole numbers; here they are none.
    return isinstance(value, int) and not isinstance(value, bool)


def is_prime(value):
    if not is_whole(value) or value < LOWEST_PRIME or value > HIGHEST_PRIME:
        return False
    divisor = 2
    while divisor * divisor <= value:
        if value % divisor == 0:
            return False
        divisor += 1
    return True


def is_rest(prime, value):
    return is_whole(value) and value >= 0 and value < prime


def are_rests(prime, value):
    if not isinstance(value, list):
        return False
    for number in value:
        if not is_rest(prime, number):
            return False
    return True


# The words of a refusal never show what was handed in: a very long number, or
# a thing of an unknown kind, may not be writable as a text.


def need_prime(prime):
    if not is_prime(prime):
        raise BadPrime("not a prime from 2 to 997")


def need_rule(prime, rule):
    if not are_rests(prime, rule):
        raise BadRule("not a list of rests by the prime")


def need_row(prime, row):
    if not are_rests(prime, row):
        raise BadRow("not a list of rests by the prime")


def inverse(prime, rest):
    # By Fermat, a rest other than 0 times its power of prime - 2 is 1.
    told = 1
    power = rest
    left = prime - 2
    while left > 0:
        if left % 2 == 1:
            told = told * power % prime
        power = power * power % prime
        left = left // 2
    return told
