import copy
import random
import unittest
from fractions import Fraction

from helping import recipe_shown
from stovework.errors import NoNumber, NoPack, NoStandIn
from stovework.larders import Larder
from stovework.needs import bought_of, chosen, needs_of
from stovework.recipes import Recipe

GREAT = 10**30 - 1


def taking(plates, *takes):
    return Recipe("soup", plates, takes, [], [])


def dairy_larder():
    """Butter has milk in it; oil stands for butter, a nut paste for oil; soy stands for milk."""
    larder = Larder()
    larder.part("butter", "milk")
    larder.stand("butter", "oil", (3, 4))
    larder.stand("oil", "paste", (2, 3))
    larder.stand("milk", "soy")
    return larder


def larder_shown(larder):
    return copy.deepcopy((larder.parts, larder.stands, larder.bars, larder.names))


class Chosen(unittest.TestCase):
    def test_without_takes(self):
        self.assertEqual(chosen(taking(4), Larder()), [])
        self.assertEqual(chosen(taking(4), dairy_larder()), [])

    def test_nothing_barred(self):
        recipe = taking(4, ("milk", (1, 1)), ("butter", (1, 2)), ("egg", (3, 1)))
        wanted = [("milk", ["milk"], (1, 1)), ("butter", ["butter"], (1, 1)), ("egg", ["egg"], (1, 1))]
        self.assertEqual(chosen(recipe, Larder()), wanted)
        self.assertEqual(chosen(recipe, dairy_larder()), wanted)

    def test_stand_ins_of_one_name_and_of_chains(self):
        larder = dairy_larder()
        larder.bar("milk")
        recipe = taking(4, ("butter", (1, 2)), ("egg", (3, 1)), ("milk", (5, 1)), ("oil", (1, 1)))
        self.assertEqual(
            chosen(recipe, larder),
            [
                ("butter", ["butter", "oil"], (3, 4)),
                ("egg", ["egg"], (1, 1)),
                ("milk", ["milk", "soy"], (1, 1)),
                ("oil", ["oil"], (1, 1)),
            ],
        )
        larder.bar("oil")
        self.assertEqual(
            chosen(recipe, larder),
            [
                ("butter", ["butter", "oil", "paste"], (1, 2)),
                ("egg", ["egg"], (1, 1)),
                ("milk", ["milk", "soy"], (1, 1)),
                ("oil", ["oil", "paste"], (2, 3)),
            ],
        )

    def test_the_order_of_the_takes(self):
        goods = ["pea", "ham", "zest", "ale", "bean"]
        self.assertEqual([row[0] for row in chosen(taking(1, *[(good, (1, 1)) for good in goods]), Larder())], goods)

    def test_a_good_taken_twice_is_told_twice(self):
        rows = chosen(taking(1, ("egg", (1, 1)), ("egg", (2, 1))), Larder())
        self.assertEqual(rows, [("egg", ["egg"], (1, 1))] * 2)

    def test_the_first_take_without_a_stand_in_is_refused(self):
        larder = dairy_larder()
        for good in ("ham", "egg", "paste", "oil", "milk"):
            larder.bar(good)
        for goods, refused in (
            (["ham"], "ham"),
            (["flour", "ham", "egg"], "ham"),
            (["flour", "egg", "ham"], "egg"),
            (["milk", "butter", "ham"], "butter"),
            (["milk", "oil", "butter"], "oil"),
        ):
            recipe = taking(2, *[(good, (1, 1)) for good in goods])
            for asked in (lambda: chosen(recipe, larder), lambda: needs_of([(recipe, 3)], larder)):
                with self.assertRaises(NoStandIn) as caught:
                    asked()
                self.assertEqual(caught.exception.good, refused)

    def test_kinds_and_lists_that_are_the_askers_own(self):
        larder = dairy_larder()
        larder.bar("milk")
        recipe = taking(4, ("butter", (1, 2)), ("milk", (5, 1)))
        before = (recipe_shown(recipe), larder_shown(larder))
        rows = chosen(recipe, larder)
        self.assertIs(type(rows), list)
        self.assertEqual([type(part) for part in rows[0]], [str, list, tuple])
        self.assertIs(type(rows[0]), tuple)
        rows[0][1].append("ham")
        rows.pop()
        wanted = [("butter", ["butter", "oil"], (3, 4)), ("milk", ["milk", "soy"], (1, 1))]
        self.assertEqual(chosen(recipe, larder), wanted)
        self.assertEqual((recipe_shown(recipe), larder_shown(larder)), before)


class Needs(unittest.TestCase):
    def test_no_dishes(self):
        self.assertEqual(needs_of([], Larder()), [])
        larder = dairy_larder()
        larder.bar("milk")
        self.assertEqual(needs_of([], larder), [])

    def test_dishes_without_takes(self):
        self.assertEqual(needs_of([(taking(4), 2), (taking(1), 1000)], Larder()), [])

    def test_one_dish(self):
        recipe = taking(4, ("milk", (1, 2)), ("egg", (3, 1)), ("ale", (1, 3)))
        self.assertEqual(needs_of([(recipe, 4)], Larder()), [("ale", (1, 3)), ("egg", (3, 1)), ("milk", (1, 2))])
        self.assertEqual(needs_of([(recipe, 6)], Larder()), [("ale", (1, 2)), ("egg", (9, 2)), ("milk", (3, 4))])
        self.assertEqual(needs_of([(recipe, 3)], Larder()), [("ale", (1, 4)), ("egg", (9, 4)), ("milk", (3, 8))])

    def test_goods_in_common(self):
        soup = taking(2, ("milk", (1, 2)), ("egg", (3, 1)))
        cake = taking(6, ("flour", (1, 1)), ("milk", (3, 4)))
        self.assertEqual(
            needs_of([(soup, 3), (cake, 2), (soup, 1)], Larder()),
            [("egg", (6, 1)), ("flour", (1, 3)), ("milk", (5, 4))],
        )

    def test_sums_in_lowest_terms(self):
        halves = taking(2, ("milk", (1, 2)))
        self.assertEqual(needs_of([(halves, 2), (halves, 2)], Larder()), [("milk", (1, 1))])
        self.assertEqual(needs_of([(taking(3, ("milk", (1, 2))), 1)] * 2, Larder()), [("milk", (1, 3))])

    def test_by_what_stands_in(self):
        larder = dairy_larder()
        larder.bar("milk")
        recipe = taking(4, ("butter", (1, 2)), ("oil", (1, 8)), ("milk", (5, 1)))
        self.assertEqual(needs_of([(recipe, 4)], larder), [("oil", (1, 2)), ("soy", (5, 1))])
        self.assertEqual(needs_of([(recipe, 8)], larder), [("oil", (1, 1)), ("soy", (10, 1))])
        larder.bar("oil")
        self.assertEqual(needs_of([(recipe, 4)], larder), [("paste", (1, 3)), ("soy", (5, 1))])
        larder.allow("milk")
        wanted = [("butter", (1, 2)), ("milk", (5, 1)), ("paste", (1, 12))]
        self.assertEqual(needs_of([(recipe, 4)], larder), wanted)

    def test_the_first_take_of_all_dishes_is_refused(self):
        larder = dairy_larder()
        for good in ("ham", "egg"):
            larder.bar(good)
        fine = taking(2, ("milk", (1, 1)))
        with_ham = taking(2, ("milk", (1, 1)), ("ham", (1, 1)), ("egg", (1, 1)))
        with_egg = taking(2, ("milk", (1, 1)), ("egg", (1, 1)), ("ham", (1, 1)))
        for dishes, refused in (([fine, with_ham, with_egg], "ham"), ([with_egg, fine, with_ham], "egg")):
            with self.assertRaises(NoStandIn) as caught:
                needs_of([(recipe, 2) for recipe in dishes], larder)
            self.assertEqual(caught.exception.good, refused)

    def test_great_amounts(self):
        recipe = taking(1000, ("milk", (GREAT, 1)), ("egg", (1, GREAT)))
        told = needs_of([(recipe, 1), (recipe, 999)], Larder())
        self.assertEqual(told, [("egg", (1, GREAT)), ("milk", (GREAT, 1))])

    def test_kinds_and_lists_that_are_the_askers_own(self):
        larder = dairy_larder()
        recipe = taking(4, ("butter", (1, 2)), ("milk", (5, 1)))
        dishes = [(recipe, 4), (recipe, 2)]
        before = (list(dishes), recipe_shown(recipe), larder_shown(larder))
        told = needs_of(dishes, larder)
        self.assertIs(type(told), list)
        self.assertEqual({type(row) for row in told}, {tuple})
        told.clear()
        self.assertEqual(needs_of(dishes, larder), [("butter", (3, 4)), ("milk", (15, 2))])
        self.assertEqual((list(dishes), recipe_shown(recipe), larder_shown(larder)), before)

    def test_by_chance_by_the_words(self):
        chance = random.Random(23)
        goods = ["a", "b", "c", "d", "e", "f", "g"]
        refused = 0
        for _ in range(400):
            larder = chance_larder(chance, goods)
            dishes = [chance_dish(chance, goods) for _ in range(chance.randint(0, 4))]
            wanted = needs_by_words(dishes, larder)
            if isinstance(wanted, str):
                refused += 1
                with self.assertRaises(NoStandIn) as caught:
                    needs_of(dishes, larder)
                self.assertEqual(caught.exception.good, wanted)
            else:
                self.assertEqual(needs_of(dishes, larder), wanted)
        self.assertGreater(refused, 40)
        self.assertLess(refused, 300)


def chance_larder(chance, goods):
    larder = Larder()
    for _ in range(chance.randint(0, 10)):
        good, other = chance.sample(goods, 2)
        if other not in larder.stands.get(good, {}):
            ratio = Fraction(chance.randint(1, 6), chance.randint(1, 6))
            larder.stand(good, other, (ratio.numerator, ratio.denominator))
    for good in chance.sample(goods, chance.randint(0, 3)):
        larder.bar(good)
    return larder


def chance_dish(chance, goods):
    takes = []
    for good in chance.sample(goods, chance.randint(0, 4)):
        amount = Fraction(chance.randint(1, 9), chance.randint(1, 9))
        takes.append((good, (amount.numerator, amount.denominator)))
    return (taking(chance.randint(1, 9), *takes), chance.randint(1, 9))


def needs_by_words(dishes, larder):
    """The needs by the words of the promise; the good's name where nothing can stand in."""
    sums = {}
    for recipe, plates in dishes:
        for good, amount in recipe.takes:
            try:
                chain, ratio = larder.stand_in(good)
            except NoStandIn:
                return good
            more = Fraction(*amount) * Fraction(plates, recipe.plates) * Fraction(*ratio)
            sums[chain[-1]] = sums.get(chain[-1], Fraction(0)) + more
    return [(name, (sums[name].numerator, sums[name].denominator)) for name in sorted(sums)]


class Bought(unittest.TestCase):
    def test_nothing_needed(self):
        self.assertEqual(bought_of([], {}), [])
        self.assertEqual(bought_of([], {"egg": (1, 1)}, {"egg": (1, 1)}), [])

    def test_without_a_shelf(self):
        needed = [("egg", (7, 1)), ("milk", (3, 2))]
        sizes = {"milk": (1, 2), "egg": (6, 1), "ham": (1, 1)}
        wanted = [("egg", 2, (5, 1)), ("milk", 3, (0, 1))]
        self.assertEqual(bought_of(needed, sizes), wanted)
        self.assertEqual(bought_of(needed, sizes, None), wanted)
        self.assertEqual(bought_of(needed, sizes, {}), wanted)
        self.assertEqual(bought_of(needed, sizes, {"ham": (9, 1)}), wanted)
        self.assertEqual(bought_of(needed, sizes, {"egg": (0, 1), "milk": (0, 1)}), wanted)

    def test_the_shelf_is_enough(self):
        for sizes in ({}, {"egg": (6, 1)}):
            self.assertEqual(bought_of([("egg", (7, 1))], sizes, {"egg": (9, 1)}), [("egg", 0, (2, 1))])
            self.assertEqual(bought_of([("egg", (7, 1))], sizes, {"egg": (15, 2)}), [("egg", 0, (1, 2))])

    def test_the_shelf_is_just_enough(self):
        for sizes in ({}, {"egg": (6, 1)}):
            self.assertEqual(bought_of([("egg", (7, 2))], sizes, {"egg": (7, 2)}), [("egg", 0, (0, 1))])

    def test_the_shelf_is_a_little_too_little(self):
        have = {"egg": (7 * GREAT - 1, GREAT)}
        self.assertEqual(bought_of([("egg", (7, 1))], {"egg": (6, 1)}, have), [("egg", 1, (6 * GREAT - 1, GREAT))])
        with self.assertRaises(NoPack) as caught:
            bought_of([("egg", (7, 1))], {}, have)
        self.assertEqual(caught.exception.good, "egg")

    def test_more_packs_than_one(self):
        self.assertEqual(bought_of([("egg", (20, 1))], {"egg": (6, 1)}, {"egg": (1, 2)}), [("egg", 4, (9, 2))])
        self.assertEqual(bought_of([("egg", (20, 1))], {"egg": (6, 1)}, {"egg": (2, 1)}), [("egg", 3, (0, 1))])

    def test_a_missing_size_that_is_wanted_and_one_that_is_not(self):
        needed = [("egg", (7, 1)), ("ham", (1, 1)), ("milk", (2, 1))]
        shelf = {"egg": (8, 1)}
        with self.assertRaises(NoPack) as caught:
            bought_of(needed, {"milk": (1, 1)}, shelf)
        self.assertEqual(caught.exception.good, "ham")
        wanted = [("egg", 0, (1, 1)), ("ham", 1, (1, 1)), ("milk", 2, (0, 1))]
        self.assertEqual(bought_of(needed, {"milk": (1, 1), "ham": (2, 1)}, shelf), wanted)

    def test_of_two_missing_sizes_the_first_in_the_list(self):
        for goods in (("ham", "egg"), ("egg", "ham")):
            needed = [("milk", (1, 1))] + [(good, (1, 1)) for good in goods]
            with self.assertRaises(NoPack) as caught:
                bought_of(needed, {"milk": (1, 1)})
            self.assertEqual(caught.exception.good, goods[0])

    def test_the_order_of_the_needs_is_kept(self):
        goods = ["pea", "ham", "zest", "ale", "bean"]
        needed = [(good, (1, 1)) for good in goods]
        sizes = {good: (1, 1) for good in sorted(goods)}
        self.assertEqual([row[0] for row in bought_of(needed, sizes)], goods)

    def test_a_size_that_is_not_above_0(self):
        for size in ((0, 1), (-1, 2)):
            with self.assertRaises(NoNumber):
                bought_of([("egg", (1, 1))], {"egg": size})

    def test_handed_in_stays_and_told_is_new(self):
        needed = [("egg", (7, 1)), ("milk", (3, 2))]
        sizes = {"milk": (1, 2), "egg": (6, 1)}
        shelf = {"egg": (1, 1)}
        before = copy.deepcopy((needed, sizes, shelf))
        told = bought_of(needed, sizes, shelf)
        self.assertIs(type(told), list)
        self.assertEqual({type(row) for row in told}, {tuple})
        self.assertEqual([type(part) for part in told[0]], [str, int, tuple])
        told.clear()
        self.assertEqual((needed, sizes, shelf), before)
        self.assertEqual(bought_of(needed, sizes, shelf), [("egg", 1, (0, 1)), ("milk", 3, (0, 1))])

    def test_by_chance_by_the_words(self):
        chance = random.Random(24)
        refused = 0
        for _ in range(500):
            needed, sizes, shelf = chance_buying(chance)
            wanted = bought_by_words(needed, sizes, shelf)
            if isinstance(wanted, str):
                refused += 1
                with self.assertRaises(NoPack) as caught:
                    bought_of(needed, sizes, shelf)
                self.assertEqual(caught.exception.good, wanted)
            else:
                self.assertEqual(bought_of(needed, sizes, shelf), wanted)
        self.assertGreater(refused, 50)
        self.assertLess(refused, 450)


def chance_buying(chance):
    goods = chance.sample(["a", "b", "c", "d", "e"], chance.randint(0, 5))

    def some(least):
        amount = Fraction(chance.randint(least, 20), chance.randint(1, 5))
        return (amount.numerator, amount.denominator)

    needed = [(good, some(1)) for good in goods]
    sizes = {good: some(1) for good in goods if chance.random() < 0.8}
    shelf = {good: some(0) for good in goods if chance.random() < 0.6}
    return needed, sizes, shelf


def bought_by_words(needed, sizes, shelf):
    """What is bought, pack by pack, by the words of the promise; the good's name where a size lacks."""
    told = []
    for name, amount in needed:
        there = Fraction(*shelf.get(name, (0, 1)))
        count = 0
        while there < Fraction(*amount):
            if name not in sizes:
                return name
            count += 1
            there += Fraction(*sizes[name])
        left = there - Fraction(*amount)
        told.append((name, count, (left.numerator, left.denominator)))
    return told


if __name__ == "__main__":
    unittest.main()
