import copy
import random
import unittest

from helping import chance_recipe, net_shown, recipe_shown
from stovework.dishes import links_of, plates_of, tasks_of
from stovework.errors import NoNet, StoveError, TooFew, TooMany
from stovework.evenings import Evening
from stovework.reader import read_recipe
from stovework.recipes import Recipe
from stovework.steps import Cut, Rest, Warm

SOUP = """dish soup 2
cut chop 3 5
with chop hand 1 0
rest boil 8 9
with boil pot 1 100
or boil 12 14
orwith boil oven 1 150
orwith boil hand 1 0
after boil chop"""

BREAD = """dish bread 4
rest rise 20 30
warm bake 10 10 2
with bake oven 2 220
within bake rise 4
apart bake rise"""

TOOLS = {"hand": 1, "pot": 1, "oven": 2}


def soup():
    return read_recipe(SOUP)


def bread():
    return read_recipe(BREAD)


def rests(many, name="tea", links=(), uses=()):
    """A recipe for one plate with so many steps of one turn."""
    names = ["s" + chr(97 + k // 26) + chr(97 + k % 26) for k in range(many)]
    return Recipe(name, 1, [], [Rest(each, 1, 1, list(uses)) for each in names], list(links))


def evening_by_words(tools, courses, size, spread, pause):
    """The net's values and the labels, by the words of the promise; or the refusal's class and its tool."""
    placed, labels = [], []
    if len(courses) > 8:
        return TooMany, None
    for c, course in enumerate(courses):
        for d, (recipe, plates) in enumerate(course):
            try:
                tasks = tasks_of(recipe, plates, size)
            except TooMany:
                return TooMany, None
            placed.append((c, len(labels), recipe, tasks))
            labels.extend((c, d, recipe.steps[task[0]].name, task[1]) for task in tasks)
    if len(labels) > 24:
        return TooMany, None
    tasks = [task[2] for dish in placed for task in dish[3]]
    for uses in [way[2] for ways in tasks for way in ways]:
        for tool, many, _ in uses:
            if many > (tools[tool] if tool in tools else 0):
                return TooFew, tool
    arcs, apart = [], []
    for _, base, recipe, some in placed:
        told = links_of(recipe, some)
        arcs += [(p + 2 * base, q + 2 * base, lag) for p, q, lag in told[0]]
        apart += [(i + base, j + base) for i, j in told[1]]
    for c in range(len(courses)):
        serving = 2 * len(tasks) + c
        for dish in placed:
            if dish[0] == c:
                for plate in plates_of(dish[2], dish[3]):
                    end = 2 * (plate + dish[1]) + 1
                    arcs += [(end, serving, 0), (serving, end, -spread)]
        if c + 1 < len(courses):
            arcs.append((serving, serving + 1, pause))
    if len(arcs) > 600:
        return TooMany, None
    return (tools, tasks, arcs, apart, len(courses)), labels


class ByHand(unittest.TestCase):
    def test_no_courses(self):
        evening = Evening(TOOLS, [])
        self.assertEqual(net_shown(evening.net), (TOOLS, [], [], [], 0))
        self.assertEqual(evening.labels, [])

    def test_empty_courses(self):
        evening = Evening({}, [[], [], []], None, 0, 7)
        self.assertEqual(net_shown(evening.net), ({}, [], [(0, 1, 7), (1, 2, 7)], [], 3))
        self.assertEqual(evening.labels, [])
        self.assertEqual(net_shown(Evening({}, [[]]).net), ({}, [], [], [], 1))

    def test_one_dish_written_out(self):
        evening = Evening(TOOLS, [[(soup(), 3)]])
        chop = [(5, 8, [("hand", 1, 0)])]
        boil = [(8, 9, [("pot", 1, 100)]), (12, 14, [("hand", 1, 0), ("oven", 1, 150)])]
        arcs = [(1, 2, 0), (3, 4, 0), (4, 3, 0)]
        self.assertEqual(net_shown(evening.net), (TOOLS, [chop, boil], arcs, [], 1))
        self.assertEqual(evening.labels, [(0, 0, "chop", 0), (0, 0, "boil", 0)])

    def test_an_evening_written_out(self):
        evening = Evening(TOOLS, [[(bread(), 4), (soup(), 2)], [], [(soup(), 2)]], (1, 1), 6, 15)
        chop = [(3, 5, [("hand", 1, 0)])]
        boil = [(8, 9, [("pot", 1, 100)]), (12, 14, [("hand", 1, 0), ("oven", 1, 150)])]
        bake = [(10, 10, [("oven", 2, 220)])]
        tasks = [[(20, 30, [])], bake, bake, chop, boil, chop, boil]
        arcs = [(1, 2, 0), (1, 4, 0), (2, 1, -4), (4, 1, -4), (7, 8, 0), (11, 12, 0)]
        arcs += [(3, 14, 0), (14, 3, -6), (5, 14, 0), (14, 5, -6), (9, 14, 0), (14, 9, -6), (14, 15, 15), (15, 16, 15)]
        arcs += [(13, 16, 0), (16, 13, -6)]
        self.assertEqual(net_shown(evening.net), (TOOLS, tasks, arcs, [(0, 1), (0, 2)], 3))
        first = [(0, 0, "rise", 0), (0, 0, "bake", 0), (0, 0, "bake", 1), (0, 1, "chop", 0), (0, 1, "boil", 0)]
        self.assertEqual(evening.labels, first + [(2, 0, "chop", 0), (2, 0, "boil", 0)])

    def test_the_pan_s_size(self):
        for size, many in ((None, 2), ((1, 1), 2), ((2, 1), 1), ((1, 2), 4), ((3, 4), 3)):
            evening = Evening(TOOLS, [[(bread(), 4)]], size)
            self.assertEqual(len(evening.net.tasks), 1 + many)
            self.assertEqual(evening.labels, [(0, 0, "rise", 0)] + [(0, 0, "bake", k) for k in range(many)])
        self.assertEqual(len(Evening(TOOLS, [[(bread(), 4)]]).net.tasks), 3)

    def test_spread_and_pause_left_out_are_nought(self):
        one = Evening(TOOLS, [[(soup(), 2)], [(soup(), 2)]])
        other = Evening(TOOLS, [[(soup(), 2)], [(soup(), 2)]], (1, 1), 0, 0)
        self.assertEqual(net_shown(one.net), net_shown(other.net))
        self.assertEqual(one.net.arcs[2:], [(3, 8, 0), (8, 3, 0), (8, 9, 0), (7, 9, 0), (9, 7, 0)])

    def test_great_spread_and_pause(self):
        great = 10**9
        evening = Evening(TOOLS, [[(soup(), 2)], []], None, great, great)
        self.assertEqual(evening.net.arcs, [(1, 2, 0), (3, 4, 0), (4, 3, -great), (4, 5, great)])

    def test_a_dish_without_plates(self):
        ring = rests(2, links=[("after", 0, 1, 0), ("after", 1, 0, 0)])
        evening = Evening({}, [[(ring, 1)]])
        self.assertEqual(evening.net.arcs, [(1, 2, 0), (3, 0, 0)])

    def test_a_dish_without_steps(self):
        evening = Evening({}, [[(rests(0), 1), (rests(1), 1)], [(rests(0), 5)]])
        self.assertEqual(net_shown(evening.net), ({}, [[(1, 1, [])]], [(1, 2, 0), (2, 1, 0), (2, 3, 0)], [], 2))
        self.assertEqual(evening.labels, [(0, 1, "saa", 0)])


class Refusals(unittest.TestCase):
    def refused(self, error, tools, courses, *rest):
        with self.assertRaises(StoveError) as caught:
            Evening(tools, courses, *rest)
        self.assertIs(type(caught.exception), error)
        return caught.exception

    def test_eight_courses_and_nine(self):
        self.assertEqual(Evening({}, [[]] * 8).net.moments, 8)
        self.refused(TooMany, {}, [[]] * 9)
        self.refused(TooMany, {}, [[(rests(1), 1)]] * 9)
        self.assertEqual(len(Evening({}, [[(rests(1), 1)]] * 8).net.tasks), 8)

    def test_twenty_four_tasks_and_one_more(self):
        for courses in ([[24]], [[12, 12]], [[12], [12]], [[8, 8], [], [8]], [[1] * 24]):
            dishes = [[(rests(many), 1) for many in course] for course in courses]
            self.assertEqual(len(Evening({}, dishes).net.tasks), 24)
            self.refused(TooMany, {}, dishes + [[(rests(1), 1)]])
            self.refused(TooMany, {}, [[(rests(1), 1)] + dishes[0]] + dishes[1:])
        self.refused(TooMany, {}, [[(rests(25), 1)]])

    def test_rounds_beyond_all_counting(self):
        great = Recipe("soup", 1, [], [Warm("fry", 1, 1, (10**29, 1))], [])
        self.refused(TooMany, {}, [[(great, 1000)]])
        self.refused(TooMany, {}, [[(great, 1000)]], (1, 10**29))
        fry = Recipe("soup", 1, [], [Warm("fry", 1, 1, (24, 1))], [])
        self.assertEqual(len(Evening({}, [[(fry, 1)]]).net.tasks), 24)
        self.refused(TooMany, {}, [[(fry, 2)]])
        self.assertEqual(len(Evening({}, [[(fry, 2)]], (2, 1)).net.tasks), 24)

    def test_too_few_of_a_tool(self):
        one = Recipe("tea", 1, [], [Rest("boil", 1, 1, [("pot", 3, 0)])], [])
        self.assertEqual(len(Evening({"pot": 3}, [[(one, 1)]]).net.tasks), 1)
        self.assertEqual(self.refused(TooFew, {"pot": 2}, [[(one, 1)]]).tool, "pot")
        self.assertEqual(self.refused(TooFew, {}, [[(one, 1)]]).tool, "pot")
        self.assertEqual(self.refused(TooFew, {"axe": 8}, [[(one, 1)]]).tool, "pot")

    def test_which_tool_is_named(self):
        first = Rest("aa", 1, 1, [("pot", 1, 0), ("axe", 1, 0)], (1, 1, [("cup", 1, 0)]))
        other = Rest("bb", 1, 1, [("bowl", 1, 0)])
        recipe = Recipe("tea", 1, [], [first, other], [])
        for tools, wanted in (
            # What a way uses is sorted.
            ({}, "axe"),
            ({"axe": 1}, "pot"),
            ({"axe": 1, "pot": 1}, "cup"),
            ({"axe": 1, "pot": 1, "cup": 1}, "bowl"),
            ({"bowl": 1, "cup": 1}, "axe"),
        ):
            self.assertEqual(self.refused(TooFew, tools, [[(recipe, 1)]]).tool, wanted)
        turned = Recipe("tea", 1, [], [other, first], [])
        self.assertEqual(self.refused(TooFew, {}, [[(turned, 1)]]).tool, "bowl")
        self.assertEqual(self.refused(TooFew, {"bowl": 1}, [[], [(turned, 1)], [(recipe, 1)]]).tool, "axe")

    def test_too_many_tasks_ahead_of_too_few(self):
        uses = [("pot", 1, 0)]
        self.refused(TooFew, {}, [[(rests(24, uses=uses), 1)]])
        self.refused(TooMany, {}, [[(rests(24, uses=uses), 1)], [(rests(1), 1)]])
        self.refused(TooMany, {}, [[(rests(1, uses=uses), 1)]] * 9)

    def arcs(self, many, uses=()):
        """An evening of one dish with just so many arcs; those of its 24 plates or fewer are counted in."""
        steps = 24
        links = []
        # Each step but the last is waited for: one plate, two arcs. Alike arcs are told once, so turns are unlike.
        links += [("after", k + 1, k, 0) for k in range(steps - 1)]
        have = steps - 1 + 2
        pairs = [(i, j) for i in range(steps) for j in range(i) if j != i - 1]
        for i, j in pairs:
            if have + 2 <= many:
                links.append(("within", i, j, 50000))
                have += 2
        turns = 1
        while have < many:
            links.append(("within", 1, 0, turns))
            have += 1
            turns += 1
        return [[(rests(steps, links=links, uses=uses), 1)]]

    def test_six_hundred_arcs_and_one_more(self):
        self.assertEqual(len(Evening({}, self.arcs(599)).net.arcs), 599)
        self.assertEqual(len(Evening({}, self.arcs(600)).net.arcs), 600)
        self.refused(TooMany, {}, self.arcs(601))
        # The pause between two courses counts, too.
        self.assertEqual(len(Evening({}, self.arcs(599) + [[]]).net.arcs), 600)
        self.refused(TooMany, {}, self.arcs(600) + [[]])

    def test_too_few_ahead_of_too_many_arcs(self):
        self.assertEqual(self.refused(TooFew, {}, self.arcs(601, [("pot", 1, 0)])).tool, "pot")
        self.refused(TooMany, {"pot": 1}, self.arcs(601, [("pot", 1, 0)]))

    def test_a_tool_s_number_out_of_its_bounds_comes_last(self):
        for number in (0, 9, -1):
            self.refused(NoNet, {"pot": number}, [])
            self.refused(NoNet, {"pot": number, "axe": 1}, [[(rests(1), 1)]])
            self.refused(TooMany, {"pot": number}, [[]] * 9)
            self.refused(TooMany, {"pot": number}, [[(rests(25), 1)]])
            self.assertEqual(self.refused(TooFew, {"pot": number}, [[(rests(1, uses=[("axe", 1, 0)]), 1)]]).tool, "axe")
            self.refused(TooMany, {"pot": number}, self.arcs(601))
        self.refused(TooFew, {"pot": 0}, [[(rests(1, uses=[("pot", 1, 0)]), 1)]])
        self.refused(NoNet, {"pot": 9}, [[(rests(1, uses=[("pot", 9, 0)]), 1)]])

    def test_other_bounds_of_the_net(self):
        names = ["a" + chr(97 + k) for k in range(13)]
        self.refused(NoNet, {name: 1 for name in names}, [])
        self.assertEqual(len(Evening({name: 1 for name in names[:12]}, []).net.tools), 12)
        self.refused(NoNet, {"Pot": 1}, [])
        long = Recipe("tea", 1, [], [Cut("chop", 1, 10**9)], [])
        self.assertEqual(len(Evening({}, [[(long, 1)]]).net.tasks), 1)
        self.refused(NoNet, {}, [[(long, 2)]])


class Kept(unittest.TestCase):
    def test_nothing_is_changed_and_later_changes_change_nothing(self):
        tools, recipes = dict(TOOLS), [bread(), soup()]
        courses = [[(recipes[0], 4), (recipes[1], 2)], [(recipes[1], 2)]]
        shown = [recipe_shown(recipe) for recipe in recipes]
        evening = Evening(tools, courses, (1, 1), 6, 15)
        self.assertEqual(tools, TOOLS)
        self.assertEqual([[dish[1] for dish in course] for course in courses], [[4, 2], [2]])
        self.assertEqual([recipe_shown(recipe) for recipe in recipes], shown)
        before = copy.deepcopy((net_shown(evening.net), evening.labels))
        tools["hand"] = 7
        tools["axe"] = 1
        courses[0].pop()
        courses.append([])
        for recipe in recipes:
            recipe.links.clear()
            for step in recipe.steps:
                step.uses.append(("axe", 1, 0))
                step.name = "other"
                if step.second is not None:
                    step.second[2].clear()
            recipe.steps.clear()
        self.assertEqual((net_shown(evening.net), evening.labels), before)

    def test_two_evenings_have_nothing_of_one_another(self):
        courses = [[(bread(), 4)]]
        one, other = Evening(TOOLS, courses), Evening(TOOLS, courses)
        before = copy.deepcopy((net_shown(other.net), other.labels))
        one.labels.clear()
        one.net.tasks[1][0][2].clear()
        one.net.tasks.pop()
        one.net.arcs.clear()
        one.net.tools.clear()
        self.assertEqual((net_shown(other.net), other.labels), before)


class ByChance(unittest.TestCase):
    def test_by_the_words(self):
        chance = random.Random(49)
        kinds = {}
        for _ in range(1500):
            tools = {name: chance.randint(1, 8) for name in ("a", "b", "z", "ab", "zz", "az", "ba", "bb", "bz")}
            most = chance.choice((1, 2, 3, 5))
            courses = []
            for _ in range(chance.choice((0, 1, 2, 3, 8, 9))):
                dishes = []
                for _ in range(chance.choice((0, 1, 1, 2))):
                    recipe = chance_recipe(chance, most)
                    for step in recipe.steps:
                        if isinstance(step, Warm):
                            step.fill = (chance.randint(1, 5), 2)
                        if chance.random() < 0.9:
                            step.uses[:] = [use for use in step.uses if use[1] <= tools.get(use[0], 0)]
                            if step.second is not None:
                                step.second[2][:] = [use for use in step.second[2] if use[1] <= tools.get(use[0], 0)]
                    dishes.append((recipe, recipe.plates))
                courses.append(dishes)
            size = chance.choice((None, (1, 1), (1, 2), (2, 1)))
            spread, pause = chance.randint(0, 9), chance.randint(0, 9)
            wanted = evening_by_words(tools, courses, size, spread, pause)
            try:
                evening = Evening(tools, courses, size, spread, pause)
                told = (net_shown(evening.net), evening.labels)
            except (TooMany, TooFew) as refusal:
                told = (type(refusal), getattr(refusal, "tool", None))
            self.assertEqual(told, wanted)
            kind = wanted[0] if isinstance(wanted[0], type) else "net"
            kinds[kind] = kinds.get(kind, 0) + 1
        for kind in (TooMany, TooFew, "net"):
            self.assertGreater(kinds[kind], 50)


if __name__ == "__main__":
    unittest.main()
