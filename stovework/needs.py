"""What stands in for the takes of recipes, what is needed for dishes, and what is bought."""

from stovework.dishes import factor_of
from stovework.errors import NoPack
from stovework.packs import packs_for
from stovework.ratios import fraction, is_less, minus, plus, product


def chosen(recipe, larder):
    told = []
    for take in recipe.takes:
        pair = larder.stand_in(take[0])
        told.append((take[0], pair[0], pair[1]))
    return told


def needs_of(dishes, larder):
    sums = {}
    for dish in dishes:
        factor = factor_of(dish[0], dish[1])
        for take, choice in zip(dish[0].takes, chosen(dish[0], larder)):
            name = choice[1][-1]
            amount = product(product(take[1], factor), choice[2])
            sums[name] = plus(sums.get(name, fraction(0)), amount)
    return sorted(sums.items())


def bought_of(needed, sizes, shelf=None):
    there = {} if shelf is None else shelf
    bought = []
    for need in needed:
        have = there.get(need[0], fraction(0))
        packs = packs_of_need(need, sizes, have)
        bought.append((need[0], packs[0], packs[1]))
    return bought


def packs_of_need(need, sizes, have):
    # Looked at first: where enough is there, a size may lack.
    if not is_less(have, need[1]):
        return (0, minus(have, need[1]))
    if need[0] not in sizes:
        raise NoPack(need[0])
    return packs_for(need[1], sizes[need[0]], have)
