import copy
import itertools
import random
import unittest

from helping import chance_case, chance_net, chance_plan, net_shown
from stovework.cases import obeys, start_case
from stovework.clashes import clashes
from stovework.nets import Net
from stovework.plans import plan_fits, runs_meet


def clash_by_words(net, case, some):
    """Whether these tasks clash, by the words of the promise."""
    if len(some) < 2 or len(set(some)) < len(some) or not set(some) <= set(range(len(net.tasks))):
        return False
    ways = [[net.tasks[i][k] for k in range(len(net.tasks[i])) if case[0][i] in (None, k)] for i in some]
    uses = [[{use[0]: use[1:] for use in way[2]} for way in each] for each in ways]
    if any(set(pair) <= set(some) for pair in net.apart):
        return True
    for one, other in itertools.combinations(uses, 2):
        if all(any(a[tool][1] != b[tool][1] for tool in a.keys() & b.keys()) for a in one for b in other):
            return True
    for tool in net.tools:
        if sum(min(way.get(tool, (0, 0))[0] for way in each) for each in uses) > net.tools[tool]:
            return True
    return False


class Clashes(unittest.TestCase):
    def assert_clash(self, net, some, wanted, case=None):
        case = start_case(net) if case is None else case
        before = copy.deepcopy((net_shown(net), case))
        for order in itertools.permutations(some):
            tasks = list(order)
            self.assertIs(clashes(net, case, tasks), wanted)
            self.assertEqual(tasks, list(order))
        self.assertEqual((net_shown(net), case), before)

    def test_lists_that_are_no_tasks(self):
        # Any two of these tasks clash, by all three reasons.
        way = [(1, 1, [("pot", 2, 0), ("axe", 1, 5)])]
        other = [(1, 1, [("pot", 2, 0), ("axe", 1, 6)])]
        net = Net({"pot": 3, "axe": 2}, [way, other, way, other], [], [(0, 1), (0, 2), (0, 3), (1, 2), (1, 3), (2, 3)])
        for some in ([], [0], [3], [-1], [4], [10**59]):
            self.assert_clash(net, some, False)
        for some in ([0, 0], [0, 1, 0], [2, 2, 1], [3, 3, 3]):
            self.assert_clash(net, some, False)
        for some in ([0, -1], [-1, -2], [0, 1, -1], [-4, -3], [0, 1, -(10**59)]):
            self.assert_clash(net, some, False)
        for some in ([0, 4], [0, 1, 4], [4, 5], [0, 1, 10**59]):
            self.assert_clash(net, some, False)
        for some in ([0, 1], [2, 3], [0, 1, 2], [0, 1, 2, 3]):
            self.assert_clash(net, some, True)

    def test_a_net_without_tasks(self):
        net = Net({"pot": 1}, [], [], None, 2)
        for some in ([], [0], [0, 1], [-1, 0]):
            self.assert_clash(net, some, False)

    def test_nothing_that_clashes(self):
        net = Net({"pot": 1}, [[(1, 1, [])] for _ in range(3)], [])
        self.assert_clash(net, [0, 1], False)
        self.assert_clash(net, [0, 1, 2], False)

    def test_told_apart_in_either_order(self):
        for pairs in ([(0, 2)], [(2, 0)], [(2, 0), (0, 2)]):
            net = Net({}, [[(1, 1, [])] for _ in range(4)], [], pairs)
            self.assert_clash(net, [0, 2], True)
            self.assert_clash(net, [0, 1, 2], True)
            self.assert_clash(net, [0, 1], False)
            self.assert_clash(net, [1, 2, 3], False)

    def test_unlike_heats(self):
        tasks = [[(1, 1, [("pot", 1, heat)])] for heat in (5, 6, 5, 0)]
        net = Net({"pot": 8}, tasks, [])
        self.assert_clash(net, [0, 2], False)
        for some in ([0, 1], [1, 2], [0, 3], [0, 1, 2], [0, 2, 3], [0, 1, 2, 3]):
            self.assert_clash(net, some, True)

    def test_wants_that_come_to_just_the_number_and_to_one_more(self):
        tasks = [[(1, 1, [("pot", many, 0)])] for many in (1, 2, 2, 3)]
        net = Net({"pot": 4, "axe": 1}, tasks, [])
        for some in ([0, 1], [1, 2], [0, 3]):
            self.assert_clash(net, some, False)
        for some in ([0, 1, 2], [1, 3], [2, 3], [0, 1, 2, 3]):
            self.assert_clash(net, some, True)

    def test_each_tool_counts_by_itself(self):
        tasks = [[(1, 1, [("pot", 1, 0), ("axe", 1, 0)])], [(1, 1, [("axe", 1, 0)])], [(1, 1, [("pot", 1, 0)])]]
        self.assert_clash(Net({"pot": 2, "axe": 2}, tasks, []), [0, 1, 2], False)
        self.assert_clash(Net({"pot": 1, "axe": 2}, tasks, []), [0, 1, 2], True)
        self.assert_clash(Net({"pot": 2, "axe": 1}, tasks, []), [0, 1, 2], True)
        self.assert_clash(Net({"pot": 2, "axe": 1}, tasks, []), [0, 2], False)

    def test_by_a_pick_of_ways_the_wants_clash_no_more(self):
        tasks = [[(1, 1, [("pot", 1, 0)])], [(1, 1, [("pot", 2, 0)]), (9, 9, [("pot", 1, 0)])]]
        net = Net({"pot": 2}, tasks, [])
        self.assert_clash(net, [0, 1], False)
        self.assert_clash(net, [0, 1], True, ([None, 0], []))
        self.assert_clash(net, [0, 1], False, ([0, 1], []))

    def test_by_a_pick_of_ways_the_heats_clash_no_more(self):
        tasks = [[(1, 1, [("pot", 1, 5)])], [(1, 1, [("pot", 1, 6)]), (9, 9, [("pot", 1, 5)])]]
        net = Net({"pot": 2}, tasks, [])
        self.assert_clash(net, [0, 1], False)
        self.assert_clash(net, [0, 1], True, ([None, 0], []))
        self.assert_clash(net, [0, 1], False, ([None, 1], []))

    def test_orders_change_nothing(self):
        net = Net({}, [[(1, 1, [])], [(1, 1, [])]], [], [(0, 1)])
        self.assert_clash(net, [0, 1], True, ([None, None], [(0, 1)]))
        net = Net({}, [[(1, 1, [])], [(1, 1, [])]], [])
        self.assert_clash(net, [0, 1], False, ([None, None], [(0, 1), (1, 0)]))

    def test_by_chance_by_the_words(self):
        chance = random.Random(40)
        clash, met = 0, 0
        for _ in range(2500):
            net = chance_net(chance, 5)
            case = chance_case(chance, net)
            many = len(net.tasks)
            some = chance.sample(range(many), chance.randint(min(2, many), many))
            if chance.random() < 0.2:
                some.insert(chance.randint(0, len(some)), chance.choice((-1, many, 0)))
            wanted = clash_by_words(net, case, some)
            self.assertIs(clashes(net, case, some), wanted)
            clash += wanted
            plan = chance_plan(chance, net)
            if wanted and plan_fits(net, plan) and obeys(case, plan):
                pairs = itertools.combinations([plan[0][i] for i in some], 2)
                self.assertFalse(all(runs_meet(one, other) for one, other in pairs))
                met += 1
        self.assertTrue(400 < clash < 2000, clash)
        self.assertGreater(met, 20)


if __name__ == "__main__":
    unittest.main()
