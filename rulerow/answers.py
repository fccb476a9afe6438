"""Answers: a shortest rule of a row, and what shows that no shorter one makes it."""

from rulerow.rests import are_rests, is_whole
from rulerow.rules import due, makes


class Answer:
    pass


class Least(Answer):
    def __init__(self, rule, shorter, place):
        self.rule = list(rule)
        self.shorter = list(shorter)
        self.place = place

    def shows(self, prime, row):
        return is_least(prime, row, self.rule, self.shorter, self.place)


class Only(Answer):
    def __init__(self, rule, shorter, place):
        self.rule = list(rule)
        self.shorter = list(shorter)
        self.place = place

    def shows(self, prime, row):
        return is_sole(self.rule, row) and is_least(prime, row, self.rule, self.shorter, self.place)


class Another(Answer):
    def __init__(self, one, other, shorter, place):
        self.one = list(one)
        self.other = list(other)
        self.shorter = list(shorter)
        self.place = place

    def shows(self, prime, row):
        if len(self.one) != len(self.other) or self.one == self.other:
            return False
        if not is_least(prime, row, self.one, self.shorter, self.place):
            return False
        return is_least(prime, row, self.other, self.shorter, self.place)


def is_sole(rule, row):
    # Two unlike rules of one length can't both make so many numbers unless a
    # shorter one makes them.
    return 2 * len(rule) <= len(row)


def is_least(prime, row, rule, shorter, place):
    # Fields may have been changed since, so that they hold any numbers.
    if not are_rests(prime, rule) or not are_rests(prime, shorter) or not is_whole(place):
        return False
    if not makes(prime, rule, row):
        return False
    if len(rule) == 0:
        return len(shorter) == 0 and place == -1
    if len(shorter) >= len(rule) or len(rule) + len(shorter) != place + 1:
        return False
    return fails_first_at(prime, shorter, row, place)


def fails_first_at(prime, rule, row, place):
    if place < len(rule) or place >= len(row):
        return False
    return row[place] != due(prime, rule, row, place) and makes(prime, rule, row[:place])
