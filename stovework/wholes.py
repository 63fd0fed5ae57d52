"""Whole numbers, and what divides them."""


def is_whole(thing):
    # True and False are ints for Python, but no numbers here.
    return isinstance(thing, int) and not isinstance(thing, bool)


def divisor(one, other):
    greater = abs(one)
    lesser = abs(other)
    while lesser != 0:
        rest = greater % lesser
        greater = lesser
        lesser = rest
    return greater
