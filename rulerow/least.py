"""The shortest rule of a row, and whether another one is as short."""

from rulerow.answers import Another, Least, Only, is_sole
from rulerow.rests import inverse, need_prime, need_row
from rulerow.rules import due


def least(prime, row):
    need_prime(prime)
    need_row(prime, row)
    rule = []
    shorter = []
    place = -1
    # As if a number of 1 that isn't due stood ahead of the row: the first
    # number that isn't 0 is then met like each later one.
    miss = 1
    for here, number in enumerate(row):
        lack = (number - due(prime, rule, row, here)) % prime
        if lack == 0:
            continue
        # What the shorter one lacks at its place is brought up to here, and
        # makes up for what the rule lacks.
        share = lack * inverse(prime, miss) % prime
        mended = mixed(prime, rule, shorter, here - place, share)
        if len(mended) > len(rule):
            shorter = rule
            place = here
            miss = lack
        rule = mended
    return Least(rule, shorter, place)


def unlike(prime, row):
    found = least(prime, row)
    if is_sole(found.rule, row):
        return Only(found.rule, found.shorter, found.place)
    # Mixed in so far back, the shorter one stays within the rule's length, and
    # what it lacks at its place falls behind the row's end.
    shift = len(found.rule) - len(found.shorter)
    other = mixed(prime, found.rule, found.shorter, shift, 1)
    return Another(found.rule, other, found.shorter, found.place)


def mixed(prime, rule, shorter, shift, share):
    # To what is due by the rule comes, so many times as the share tells, what
    # the shorter one lacks so many places ahead as the shift tells.
    length = max(len(rule), shift + len(shorter))
    told = rule + [0] * (length - len(rule))
    told[shift - 1] = (told[shift - 1] + share) % prime
    for back, rest in enumerate(shorter, start=shift):
        told[back] = (told[back] - share * rest) % prime
    return told
