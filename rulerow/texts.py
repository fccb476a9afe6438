"""Rows as texts."""

from rulerow.errors import BadText
from rulerow.rests import are_rests, is_prime, need_prime, need_row

FIGURES = "0123456789"
# No prime and no rest has more; Python itself fails on very long numbers.
MOST_FIGURES = 3


def written(prime, row):
    need_prime(prime)
    need_row(prime, row)
    return f"{prime}:" + "".join([f" {number}" for number in row])


def read(text):
    if not isinstance(text, str):
        raise BadText("not a text")
    parts = text.split(":")
    if len(parts) != 2:
        raise BadText("not a prime, a colon and numbers")
    prime = number_of(parts[0])
    words = parts[1].split(" ")
    if words[0] != "":
        raise BadText("no blank ahead of a number")
    row = [number_of(word) for word in words[1:]]
    if not is_prime(prime) or not are_rests(prime, row):
        raise BadText("not a prime from 2 to 997 and rests by it")
    return (prime, row)


def number_of(word):
    if not is_number(word):
        raise BadText("not a number in plain figures")
    return int(word)


def is_number(word):
    if len(word) == 0 or len(word) > MOST_FIGURES:
        return False
    if len(word) > 1 and word[0] == "0":
        return False
    # Python's own test of figures takes those of other scripts too.
    return all([sign in FIGURES for sign in word])
