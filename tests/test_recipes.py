import random
import unittest

from helping import chance_recipe, recipe_shown
from stovework.reader import read_recipe
from stovework.recipes import Recipe, recipe_text
from stovework.steps import Cut, Rest, Warm

CHOP = Cut("chop", 4, 7, [("knife", 1, 0), ("board", 2, 0)], (2, 3, [("mill", 1, 0), ("bowl", 3, 5)]))
FRY = Warm("fry", 5, 5, (3, 2), [("pan", 1, 200)])
BAKE = Warm("bake", 30, 40, (2, 3), None, (20, 25, []))
COOL = Rest("cool", 1, 100000)
TAKES = [("egg", (3, 1)), ("flour", (1, 2)), ("butter", (7, 4))]
LINKS = [("after", 1, 0, 0), ("within", 2, 1, 15), ("apart", 3, 0, 0), ("within", 3, 2, 0), ("after", 1, 0, 0)]

FULL = """dish cake 8
take egg 3
take flour 1/2
take butter 1+3/4
cut chop 4 7
with chop knife 1 0
with chop board 2 0
or chop 2 3
orwith chop mill 1 0
orwith chop bowl 3 5
warm fry 5 5 1+1/2
with fry pan 1 200
warm bake 30 40 2/3
or bake 20 25
rest cool 1 100000
after fry chop
within bake fry 15
apart cool chop
within cool bake 0
after fry chop"""


def cake():
    return Recipe("cake", 8, TAKES, [CHOP, FRY, BAKE, COOL], LINKS)


class Values(unittest.TestCase):
    def test_what_a_recipe_has(self):
        recipe = cake()
        self.assertEqual(recipe.name, "cake")
        self.assertEqual(recipe.plates, 8)
        self.assertEqual(recipe.takes, TAKES)
        self.assertEqual(recipe.links, LINKS)
        self.assertEqual(len(recipe.steps), 4)
        for step, wanted in zip(recipe.steps, (CHOP, FRY, BAKE, COOL)):
            self.assertIs(step, wanted)

    def test_the_three_lists_are_kept_as_copies(self):
        takes = list(TAKES)
        steps = [CHOP, FRY, BAKE, COOL]
        links = list(LINKS)
        recipe = Recipe("cake", 8, takes, steps, links)
        before = recipe_shown(recipe)
        for handed in (takes, steps, links):
            handed.reverse()
            handed.pop()
        self.assertEqual(recipe_shown(recipe), before)
        self.assertEqual(recipe_text(recipe), FULL)
        takes.clear()
        steps.clear()
        links.clear()
        self.assertEqual(recipe_shown(recipe), before)

    def test_what_is_handed_in_stays(self):
        takes = list(TAKES)
        steps = [CHOP, FRY, BAKE, COOL]
        links = list(LINKS)
        recipe_text(Recipe("cake", 8, takes, steps, links))
        self.assertEqual((takes, steps, links), (TAKES, [CHOP, FRY, BAKE, COOL], LINKS))

    def test_no_list_is_common_to_two_recipes(self):
        empty = []
        one = Recipe("one", 1, empty, empty, empty)
        other = Recipe("other", 1, empty, empty, empty)
        lists = [empty, one.takes, one.steps, one.links, other.takes, other.steps, other.links]
        self.assertEqual(len({id(each) for each in lists}), 7)


class Text(unittest.TestCase):
    def test_a_whole_recipe(self):
        self.assertEqual(recipe_text(cake()), FULL)

    def test_the_dish_row_alone(self):
        self.assertEqual(recipe_text(Recipe("soup", 1000, [], [], [])), "dish soup 1000")

    def test_without_takes(self):
        self.assertEqual(recipe_text(Recipe("soup", 1, [], [COOL], [])), "dish soup 1\nrest cool 1 100000")

    def test_without_steps(self):
        self.assertEqual(recipe_text(Recipe("soup", 1, [("leek", (5, 2))], [], [])), "dish soup 1\ntake leek 2+1/2")

    def test_each_in_its_own_order(self):
        takes = [("z", (1, 1)), ("a", (2, 1))]
        recipe = Recipe("soup", 2, takes, [FRY, COOL, CHOP], [("apart", 2, 0, 0), ("after", 1, 2, 0)])
        self.assertEqual(
            recipe_text(recipe),
            "dish soup 2\ntake z 1\ntake a 2\nwarm fry 5 5 1+1/2\nwith fry pan 1 200\nrest cool 1 100000\n"
            "cut chop 4 7\nwith chop knife 1 0\nwith chop board 2 0\nor chop 2 3\n"
            "orwith chop mill 1 0\norwith chop bowl 3 5\napart chop fry\nafter cool chop",
        )

    def test_ways_with_and_without_uses(self):
        use = [("pot", 8, 1000)]
        for kind, word in ((Cut, "cut"), (Rest, "rest")):
            bare = f"dish soup 1\n{word} stir 1 2"
            with_row = "\nwith stir pot 8 1000"
            or_row = "\nor stir 3 4"
            orwith_row = "\norwith stir pot 8 1000"
            for uses in ([], use):
                for second in (None, (3, 4, []), (3, 4, use)):
                    wanted = bare + (with_row if uses else "")
                    if second is not None:
                        wanted += or_row + (orwith_row if second[2] else "")
                    recipe = Recipe("soup", 1, [], [kind("stir", 1, 2, uses, second)], [])
                    self.assertEqual(recipe_text(recipe), wanted)

    def test_writing_changes_nothing(self):
        recipe = cake()
        before = recipe_shown(recipe)
        self.assertEqual(recipe_text(recipe), recipe_text(recipe))
        self.assertEqual(recipe_shown(recipe), before)

    def test_what_is_written_is_read_just_as_it_is(self):
        chance = random.Random(20)
        for _ in range(300):
            recipe = chance_recipe(chance)
            text = recipe_text(recipe)
            self.assertFalse(text.endswith("\n"))
            self.assertEqual(recipe_shown(read_recipe(text)), recipe_shown(recipe))
            self.assertEqual(recipe_text(read_recipe(text)), text)


if __name__ == "__main__":
    unittest.main()
