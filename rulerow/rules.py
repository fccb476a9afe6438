"""Rules: the rows they make, how a row goes on by them, and rules that come of rules."""

from rulerow.errors import BadPlace, NoWay, TooFew
from rulerow.rests import inverse, is_whole, need_prime, need_row, need_rule


def makes(prime, rule, row):
    need_prime(prime)
    need_rule(prime, rule)
    need_row(prime, row)
    for place in range(len(rule), len(row)):
        if row[place] != due(prime, rule, row, place):
            return False
    return True


def go_on(prime, rule, row, many):
    need_start(prime, rule, row)
    need_count(many)
    told = list(row)
    length = len(row) + many
    while len(told) < length:
        told.append(due(prime, rule, told, len(told)))
    return told


def far(prime, rule, row, place):
    need_start(prime, rule, row)
    need_count(place)
    if place < len(row):
        return row[place]
    if len(rule) == 0:
        return 0
    # The rule need not make the row itself, so only the row's end tells what follows.
    skipped = len(row) - len(rule)
    return number_at(prime, rule, row[skipped:], place - skipped)


def both(prime, one, other):
    need_prime(prime)
    need_rule(prime, one)
    need_rule(prime, other)
    first = polynomial(prime, one)
    second = polynomial(prime, other)
    length = len(one) + len(other)
    return [-product_at(prime, first, second, power) % prime for power in range(1, length + 1)]


def backwards(prime, rule):
    need_prime(prime)
    need_rule(prime, rule)
    if len(rule) == 0:
        return []
    if rule[-1] == 0:
        raise NoWay("the rule's last rest is 0")
    # What is due, solved for the number farthest ahead.
    share = inverse(prime, rule[-1])
    told = [-rest * share % prime for rest in reversed(rule[:-1])]
    told.append(share)
    return told


def need_start(prime, rule, row):
    need_prime(prime)
    need_rule(prime, rule)
    need_row(prime, row)
    if len(rule) > len(row):
        raise TooFew("the rule is longer than the row")


def need_count(value):
    if not is_whole(value) or value < 0:
        raise BadPlace("not a whole number from 0 on")


def due(prime, rule, row, place):
    ahead = row[place - len(rule):place]
    return sum([number * rest for number, rest in zip(reversed(ahead), rule)]) % prime


def polynomial(prime, rule):
    # A rule makes a row if the row's series times 1 - a*x - b*x^2 - .. has
    # nothing from the rule's length on: so rules are reckoned with as such.
    return [1] + [-rest % prime for rest in rule]


def mirrored(prime, numbers):
    # A polynomial times that of -x has even powers alone.
    return [number if power % 2 == 0 else -number % prime for power, number in enumerate(numbers)]


def product_at(prime, one, other, power):
    lowest = max(0, power - len(other) + 1)
    highest = min(power, len(one) - 1)
    front = one[lowest:highest + 1]
    back = other[power - highest:power - lowest + 1]
    return sum([number * factor for number, factor in zip(reversed(back), front)]) % prime


def number_at(prime, rule, start, place):
    # The series that the start goes on to is a fraction of two polynomials.
    # With the mirrored lower one multiplied into both, the lower one has even
    # powers alone, so that half of the upper one tells the number: each round
    # halves the place, and its figures alone tell how long it takes.
    length = len(rule)
    lower = polynomial(prime, rule)
    upper = [product_at(prime, start, lower, power) for power in range(length)]
    left = place
    while left > 0:
        factor = mirrored(prime, lower)
        upper = [product_at(prime, upper, factor, power) for power in range(left % 2, 2 * length, 2)]
        lower = [product_at(prime, lower, factor, power) for power in range(0, 2 * length + 1, 2)]
        left = left // 2
    return upper[0]
