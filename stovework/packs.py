"""How many whole packs of a good are bought."""

from stovework.errors import NoNumber
from stovework.ratios import fraction, minus, plus, product, quotient, round_up


def packs_for(need, size, have=None):
    if size[0] <= 0:
        raise NoNumber("a pack's size is above 0")
    there = fraction(0) if have is None else have
    missing = minus(need, there)
    # Where there is more than enough, nothing is given back.
    count = max(0, round_up(quotient(missing, size)))
    bought = product(fraction(count), size)
    return (count, minus(plus(there, bought), need))
