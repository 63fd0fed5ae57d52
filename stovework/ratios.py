"""Fractions: tuples (top, bottom) of whole numbers in lowest terms, the bottom from 1 on."""

from stovework.errors import NoNumber
from stovework.wholes import divisor, is_whole


def fraction(top, bottom=1):
    if not is_whole(top) or not is_whole(bottom):
        raise NoNumber("a fraction is made of whole numbers")
    if bottom == 0:
        raise NoNumber("nothing is divided by 0")
    common = divisor(top, bottom)
    # Divided by a number below 0, the bottom's sign goes over to the top.
    if bottom < 0:
        common = -common
    return (top // common, bottom // common)


def is_fraction(thing):
    if not isinstance(thing, tuple) or len(thing) != 2:
        return False
    if not is_whole(thing[0]) or not is_whole(thing[1]):
        return False
    return thing[1] >= 1 and divisor(thing[0], thing[1]) == 1


def plus(one, other):
    return fraction(one[0] * other[1] + other[0] * one[1], one[1] * other[1])


def minus(one, other):
    return fraction(one[0] * other[1] - other[0] * one[1], one[1] * other[1])


def product(one, other):
    return fraction(one[0] * other[0], one[1] * other[1])


def quotient(one, other):
    # Where the other is 0, so is this bottom, and fraction refuses it.
    return fraction(one[0] * other[1], one[1] * other[0])


def is_less(one, other):
    return one[0] * other[1] < other[0] * one[1]


def round_up(one):
    # Python's // goes down, for numbers below 0 too: both signs turn it round.
    return -(-one[0] // one[1])


def round_down(one):
    return one[0] // one[1]
