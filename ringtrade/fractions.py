"""Fractions: tuples (top, bottom) in lowest terms, the bottom from 1 on."""

from ringtrade.errors import NoFraction
from ringtrade.wishes import is_whole

NOUGHT = (0, 1)
ONE = (1, 1)


def greatest_divisor(one, other):
    while other != 0:
        rest = one % other
        one = other
        other = rest
    return abs(one)


def fraction(top, bottom):
    if not is_whole(top) or not is_whole(bottom) or bottom == 0:
        raise NoFraction("a fraction is made of two whole numbers, the second not 0")
    divisor = greatest_divisor(top, bottom)
    if bottom < 0:
        divisor = -divisor
    return (top // divisor, bottom // divisor)


def has_worth(value):
    # A pair that tells a fraction need not be in lowest terms.
    if not isinstance(value, tuple) or len(value) != 2:
        return False
    return is_whole(value[0]) and is_whole(value[1]) and value[1] > 0


def plus(a, b):
    return fraction(a[0] * b[1] + b[0] * a[1], a[1] * b[1])


def minus(a, b):
    return fraction(a[0] * b[1] - b[0] * a[1], a[1] * b[1])


def times(a, b):
    return fraction(a[0] * b[0], a[1] * b[1])


def less(a, b):
    return a[0] * b[1] < b[0] * a[1]


def total(shares):
    told = NOUGHT
    for share in shares:
        told = plus(told, share)
    return told


def least(shares):
    told = shares[0]
    for share in shares:
        if less(share, told):
            told = share
    return told
