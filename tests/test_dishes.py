import random
import unittest
from fractions import Fraction

from helping import chance_recipe, recipe_shown
from stovework.dishes import factor_of, links_of, plates_of, tasks_of
from stovework.errors import TooMany
from stovework.recipes import Recipe
from stovework.steps import Cut, Rest, Warm

GREAT = 10**30 - 1


def of_steps(*steps):
    return Recipe("soup", 2, [], steps, [])


def of_links(*links):
    """A cut, a warm step of three pans, one of two, a rest; four plates by the recipe."""
    steps = [Cut("chop", 1, 2), Warm("fry", 3, 4, (3, 1)), Warm("bake", 5, 6, (3, 2)), Rest("cool", 7, 8)]
    return Recipe("soup", 4, [], steps, links)


# The places of the tasks of these steps, for as many plates as the recipe has.
CHOP, FRY, BAKE, COOL = [0], [1, 2, 3], [4, 5], [6]


def tasks_by_words(recipe, plates, size):
    """The tasks by the words of the promise; None where there are too many."""
    factor = Fraction(plates, recipe.plates)
    tasks = []
    for place, step in enumerate(recipe.steps):
        many = 1
        if isinstance(step, Warm):
            many = -(-(Fraction(*step.fill) * factor / size) // 1)
        if many + len(tasks) > 24:
            return None
        ways = []
        for least, most, uses in [(step.least, step.most, step.uses)] + ([step.second] if step.second else []):
            if isinstance(step, Cut):
                least, most = -(-least * factor // 1), -(-most * factor // 1)
            ways.append((least, most, sorted(uses)))
        tasks.extend((place, turn, ways) for turn in range(many))
    return tasks


def links_by_words(recipe, tasks):
    """The arcs and pairs by the words of the promise."""
    arcs, pairs = set(), set()
    for word, at, other, turns in recipe.links:
        for s, one in enumerate(tasks):
            for o, two in enumerate(tasks):
                if one[0] == at and two[0] == other:
                    if word == "apart":
                        pairs.add(tuple(sorted((s, o))))
                    if word in ("after", "within"):
                        arcs.add((2 * o + 1, 2 * s, 0))
                    if word == "within":
                        arcs.add((2 * s, 2 * o + 1, -turns))
    return (sorted(arcs), sorted(pairs))


class Factor(unittest.TestCase):
    def test_factors(self):
        for told, plates, wanted in ((4, 4, (1, 1)), (4, 6, (3, 2)), (4, 2, (1, 2)), (1000, 1, (1, 1000))):
            self.assertEqual(factor_of(Recipe("soup", told, [], [], []), plates), wanted)
        self.assertEqual(factor_of(Recipe("soup", 1, [], [], []), 1000), (1000, 1))
        self.assertEqual(factor_of(Recipe("soup", 999, [], [], []), 666), (2, 3))


class Tasks(unittest.TestCase):
    def test_step_by_step_and_round_by_round(self):
        recipe = of_links()
        self.assertEqual(
            tasks_of(recipe, 4),
            [
                (0, 0, [(1, 2, [])]),
                (1, 0, [(3, 4, [])]),
                (1, 1, [(3, 4, [])]),
                (1, 2, [(3, 4, [])]),
                (2, 0, [(5, 6, [])]),
                (2, 1, [(5, 6, [])]),
                (3, 0, [(7, 8, [])]),
            ],
        )

    def test_more_plates_and_fewer(self):
        self.assertEqual([task[:2] for task in tasks_of(of_links(), 1)], [(0, 0), (1, 0), (2, 0), (3, 0)])
        more = tasks_of(of_links(), 5)
        self.assertEqual([task[0] for task in more], [0, 1, 1, 1, 1, 2, 2, 3])
        self.assertEqual([task[1] for task in more], [0, 0, 1, 2, 3, 0, 1, 0])
        ways = [(2, 3, [])] + [(3, 4, [])] * 4 + [(5, 6, [])] * 2 + [(7, 8, [])]
        self.assertEqual([task[2] for task in more], [[way] for way in ways])

    def test_ways_as_the_step_grown_by_the_factor_tells(self):
        ways = ([("pan", 1, 2), ("axe", 2, 1)], (7, 9, [("pot", 1, 0), ("oven", 1, 5)]))
        recipe = of_steps(Cut("chop", 3, 5, *ways), Rest("cool", 3, 5, *ways))
        rest = [(3, 5, [("axe", 2, 1), ("pan", 1, 2)]), (7, 9, [("oven", 1, 5), ("pot", 1, 0)])]
        cut = [(5, 8, [("axe", 2, 1), ("pan", 1, 2)]), (11, 14, [("oven", 1, 5), ("pot", 1, 0)])]
        self.assertEqual(tasks_of(recipe, 3), [(0, 0, cut), (1, 0, rest)])

    def test_the_pans_size(self):
        recipe = of_steps(Warm("fry", 1, 1, (6, 1)))
        self.assertEqual(len(tasks_of(recipe, 2)), 6)
        self.assertEqual(len(tasks_of(recipe, 2, None)), 6)
        self.assertEqual(len(tasks_of(recipe, 2, (1, 1))), 6)
        self.assertEqual(len(tasks_of(recipe, 2, (1, 2))), 12)
        self.assertEqual(len(tasks_of(recipe, 2, (2, 1))), 3)
        self.assertEqual(len(tasks_of(recipe, 2, (5, 1))), 2)
        self.assertEqual(len(tasks_of(recipe, 2, (6, 1))), 1)
        self.assertEqual(len(tasks_of(recipe, 2, (7, 1))), 1)
        self.assertEqual(len(tasks_of(recipe, 3, (2, 1))), 5)

    def test_no_steps(self):
        self.assertEqual(tasks_of(of_steps(), 1000), [])

    def test_twenty_four_tasks_and_twenty_five(self):
        self.assertEqual(len(tasks_of(of_steps(Warm("fry", 1, 1, (24, 1))), 2)), 24)
        for fill in ((25, 1), (241, 10)):
            with self.assertRaises(TooMany):
                tasks_of(of_steps(Warm("fry", 1, 1, fill)), 2)
        both = of_steps(Cut("chop", 1, 1), Warm("fry", 1, 1, (11, 1)), Warm("bake", 1, 1, (12, 1)))
        self.assertEqual(len(tasks_of(both, 2)), 24)
        with self.assertRaises(TooMany):
            tasks_of(of_steps(*both.steps, Rest("cool", 1, 1)), 2)
        with self.assertRaises(TooMany):
            tasks_of(both, 2, (11, 12))
        self.assertEqual(len(tasks_of(of_steps(*[Rest("r" + "abcdefghijkl"[k], 1, 1) for k in range(12)]), 2)), 12)
        with self.assertRaises(TooMany):
            tasks_of(of_steps(*[Rest(f"r{'abcdefghijklmnopqrstuvwxy'[k]}", 1, 1) for k in range(25)]), 2)

    def test_rounds_of_thirty_figures_are_refused_at_once(self):
        recipe = of_steps(Cut("chop", 1, 1), Warm("fry", 1, 1, (GREAT, 1)))
        for size in (None, (1, 1), (1, GREAT), (2, 1)):
            for plates in (1, 2, 1000):
                with self.assertRaises(TooMany):
                    tasks_of(recipe, plates, size)
        self.assertEqual(len(tasks_of(recipe, 2, (GREAT, 1))), 2)
        self.assertEqual(len(tasks_of(recipe, 2, (GREAT - 1, 1))), 3)

    def test_no_list_in_common(self):
        uses = [("pan", 1, 0)]
        recipe = of_steps(Warm("fry", 1, 1, (3, 1), uses, (2, 2, uses)), Cut("chop", 1, 1, uses, (2, 2, uses)))
        tasks = tasks_of(recipe, 2)
        lists = [uses]
        for step in recipe.steps:
            lists += [step.uses, step.second[2]]
        for task in tasks + tasks_of(recipe, 2):
            lists += [task[2]] + [way[2] for way in task[2]]
        self.assertEqual(len({id(each) for each in lists}), len(lists))

    def test_what_is_told_and_changed_changes_nothing(self):
        recipe = of_steps(Warm("fry", 1, 1, (2, 1), [("pan", 1, 0)], (2, 2, [("pot", 1, 0)])))
        before = recipe_shown(recipe)
        told = tasks_of(recipe, 2)
        told[0][2][0][2].clear()
        told[0][2].pop()
        way = (1, 1, [("pan", 1, 0)])
        self.assertEqual(told[1], (0, 1, [way, (2, 2, [("pot", 1, 0)])]))
        told.clear()
        self.assertEqual(len(tasks_of(recipe, 2)), 2)
        self.assertEqual(tasks_of(recipe, 2)[0], (0, 0, [way, (2, 2, [("pot", 1, 0)])]))
        self.assertEqual(recipe_shown(recipe), before)

    def test_kinds(self):
        tasks = tasks_of(of_links(), 4)
        self.assertIs(type(tasks), list)
        for task in tasks:
            self.assertEqual([type(part) for part in task], [int, int, list])
            self.assertIs(type(task), tuple)


class Links(unittest.TestCase):
    def told(self, *links):
        recipe = of_links(*links)
        return links_of(recipe, tasks_of(recipe, 4))

    def test_none(self):
        self.assertEqual(self.told(), ([], []))
        self.assertEqual(links_of(of_steps(), []), ([], []))

    def test_after(self):
        self.assertEqual(self.told(("after", 3, 0, 0)), ([(1, 12, 0)], []))
        self.assertEqual(self.told(("after", 0, 3, 0)), ([(13, 0, 0)], []))
        self.assertEqual(self.told(("after", 1, 0, 0)), ([(1, 2, 0), (1, 4, 0), (1, 6, 0)], []))
        self.assertEqual(self.told(("after", 0, 1, 0)), ([(3, 0, 0), (5, 0, 0), (7, 0, 0)], []))
        arcs = [(3, 8, 0), (3, 10, 0), (5, 8, 0), (5, 10, 0), (7, 8, 0), (7, 10, 0)]
        self.assertEqual(self.told(("after", 2, 1, 0)), (arcs, []))

    def test_within(self):
        self.assertEqual(self.told(("within", 3, 0, 9)), ([(1, 12, 0), (12, 1, -9)], []))
        self.assertEqual(self.told(("within", 3, 0, 0)), ([(1, 12, 0), (12, 1, 0)], []))
        arcs = [(1, 8, 0), (1, 10, 0), (8, 1, -100000), (10, 1, -100000)]
        self.assertEqual(self.told(("within", 2, 0, 100000)), (arcs, []))
        arcs = [(9, 2, 0), (9, 4, 0), (9, 6, 0), (11, 2, 0), (11, 4, 0), (11, 6, 0)]
        arcs += [(2, 9, -3), (2, 11, -3), (4, 9, -3), (4, 11, -3), (6, 9, -3), (6, 11, -3)]
        self.assertEqual(self.told(("within", 1, 2, 3)), (sorted(arcs), []))

    def test_apart(self):
        self.assertEqual(self.told(("apart", 0, 3, 0)), ([], [(0, 6)]))
        self.assertEqual(self.told(("apart", 3, 0, 0)), ([], [(0, 6)]))
        pairs = [(1, 4), (1, 5), (2, 4), (2, 5), (3, 4), (3, 5)]
        self.assertEqual(self.told(("apart", 1, 2, 0)), ([], pairs))
        self.assertEqual(self.told(("apart", 2, 1, 0)), ([], pairs))

    def test_each_once(self):
        links = [("after", 3, 0, 0), ("within", 3, 0, 5), ("within", 3, 0, 4), ("within", 3, 0, 5), ("after", 3, 0, 0)]
        self.assertEqual(self.told(*links), ([(1, 12, 0), (12, 1, -5), (12, 1, -4)], []))
        self.assertEqual(self.told(("apart", 0, 3, 0), ("apart", 3, 0, 0), ("apart", 0, 3, 0)), ([], [(0, 6)]))

    def test_sorted_whatever_the_order_of_the_links(self):
        links = [("apart", 3, 2, 0), ("after", 3, 2, 0), ("apart", 1, 0, 0), ("within", 1, 0, 2), ("after", 0, 3, 0)]
        recipe = of_links(*links)
        wanted = links_by_words(recipe, tasks_of(recipe, 4))
        self.assertEqual(self.told(*links), wanted)
        self.assertEqual(self.told(*reversed(links)), wanted)

    def test_tasks_handed_in_stay_and_lists_are_new(self):
        recipe = of_links(("within", 1, 0, 2), ("apart", 1, 0, 0))
        before = recipe_shown(recipe)
        tasks = tasks_of(recipe, 4)
        arcs, pairs = links_of(recipe, tasks)
        arcs.clear()
        pairs.clear()
        plates_of(recipe, tasks).clear()
        self.assertEqual(tasks, tasks_of(recipe, 4))
        self.assertEqual(links_of(recipe, tasks), links_by_words(recipe, tasks))
        self.assertEqual(plates_of(recipe, tasks), FRY + BAKE + COOL)
        self.assertEqual(recipe_shown(recipe), before)

    def test_kinds(self):
        told = self.told(("within", 1, 0, 2), ("apart", 1, 0, 0))
        self.assertIs(type(told), tuple)
        self.assertEqual([type(part) for part in told], [list, list])
        self.assertEqual({type(row) for part in told for row in part}, {tuple})


class Plates(unittest.TestCase):
    def told(self, *links):
        recipe = of_links(*links)
        return plates_of(recipe, tasks_of(recipe, 4))

    def test_all_where_nothing_is_waited_for(self):
        self.assertEqual(self.told(), CHOP + FRY + BAKE + COOL)
        self.assertEqual(self.told(("apart", 1, 0, 0), ("apart", 0, 3, 0)), CHOP + FRY + BAKE + COOL)

    def test_the_other_of_after_and_within_is_none(self):
        self.assertEqual(self.told(("after", 3, 1, 0)), CHOP + BAKE + COOL)
        self.assertEqual(self.told(("within", 3, 1, 5)), CHOP + BAKE + COOL)
        self.assertEqual(self.told(("after", 1, 0, 0), ("within", 2, 1, 0), ("apart", 2, 3, 0)), BAKE + COOL)
        self.assertEqual(self.told(("apart", 1, 0, 0), ("after", 0, 1, 0)), CHOP + BAKE + COOL)

    def test_perhaps_none(self):
        ring = (("after", 1, 0, 0), ("after", 2, 1, 0), ("within", 3, 2, 0), ("after", 0, 3, 0))
        self.assertEqual(self.told(*ring), [])
        self.assertEqual(plates_of(of_steps(), []), [])


class ByChance(unittest.TestCase):
    def test_by_the_words(self):
        chance = random.Random(21)
        refused = 0
        for _ in range(500):
            recipe = chance_recipe(chance, chance.choice((2, 4, 6)))
            plates = chance.choice((1, 2, 3, 1000))
            size = Fraction(chance.choice((1, 7, 100, GREAT)), chance.choice((1, 3)))
            wanted = tasks_by_words(recipe, plates, size)
            if wanted is None:
                refused += 1
                with self.assertRaises(TooMany):
                    tasks_of(recipe, plates, (size.numerator, size.denominator))
                continue
            tasks = tasks_of(recipe, plates, (size.numerator, size.denominator))
            self.assertEqual(tasks, wanted)
            self.assertEqual(links_of(recipe, tasks), links_by_words(recipe, tasks))
            waited = [link[2] for link in recipe.links if link[0] in ("after", "within")]
            self.assertEqual(plates_of(recipe, tasks), [k for k, task in enumerate(tasks) if task[0] not in waited])
        self.assertGreater(refused, 20)
        self.assertLess(refused, 400)


if __name__ == "__main__":
    unittest.main()
