import copy
import random
import unittest

from helping import chance_case, chance_net, chance_plan, net_shown
from stovework.cases import arcs_of, obeys, open_ways, start_case, unlike_heats, want_of, work_of
from stovework.nets import Net
from stovework.plans import plan_fits, time_of

POT = ("pot", 2, 5)
ONE_WAY = [(2, 6, [POT])]
TWO_WAYS = [(3, 4, [("pot", 1, 5), ("axe", 1, 0)]), (1, 9, [("axe", 2, 0)])]
TOOLS = {"pot": 3, "axe": 2}


def net_of(*tasks, arcs=(), moments=0):
    return Net(TOOLS, list(tasks), list(arcs), None, moments)


def heats_net(*tasks):
    """A net whose tasks are told by the heats of their ways, dicts from tools to heats."""
    tools = {"pot": 1, "axe": 1, "oven": 1}
    return Net(tools, [[(1, 1, [(tool, 1, way[tool]) for tool in way]) for way in ways] for ways in tasks], [])


class Start(unittest.TestCase):
    def test_start_case(self):
        self.assertEqual(start_case(Net({}, [], [])), ([], []))
        self.assertEqual(start_case(Net({}, [], [], None, 3)), ([], []))
        self.assertEqual(start_case(net_of(ONE_WAY)), ([None], []))
        self.assertEqual(start_case(net_of(ONE_WAY, TWO_WAYS, ONE_WAY, moments=2)), ([None, None, None], []))

    def test_told_is_new(self):
        net = net_of(ONE_WAY, TWO_WAYS)
        told = start_case(net)
        told[0][0] = 0
        told[1].append((0, 1))
        self.assertEqual(start_case(net), ([None, None], []))


class OpenWays(unittest.TestCase):
    net = net_of(ONE_WAY, TWO_WAYS, TWO_WAYS)

    def test_not_picked(self):
        self.assertEqual(open_ways(self.net, start_case(self.net), 0), ONE_WAY)
        self.assertEqual(open_ways(self.net, start_case(self.net), 1), TWO_WAYS)
        self.assertEqual(open_ways(self.net, ([0, None, 1], [(0, 1)]), 1), TWO_WAYS)

    def test_picked(self):
        case = ([0, 0, 1], [(2, 1)])
        self.assertEqual(open_ways(self.net, case, 0), ONE_WAY)
        self.assertEqual(open_ways(self.net, case, 1), TWO_WAYS[:1])
        self.assertEqual(open_ways(self.net, case, 2), TWO_WAYS[1:])

    def test_told_is_new_through_and_through(self):
        before = net_shown(self.net)
        for case in (([None, None, None], []), ([0, 0, 1], [])):
            for i in range(3):
                told = open_ways(self.net, case, i)
                wanted = copy.deepcopy(told)
                told[0][2].append(("axe", 1, 9))
                told.append("no way")
                self.assertEqual(open_ways(self.net, case, i), wanted)
        self.assertEqual(net_shown(self.net), before)


class Obeys(unittest.TestCase):
    def test_no_tasks(self):
        self.assertIs(obeys(([], []), ([], [])), True)
        self.assertIs(obeys(([], []), ([], [4])), True)

    def test_picks(self):
        plan = ([(0, 2, 0), (0, 2, 1), (0, 2, 1)], [])
        for picks in ([None, None, None], [0, None, None], [None, 1, None], [0, 1, 1]):
            self.assertIs(obeys((picks, []), plan), True)
        for picks in ([1, None, None], [None, 0, None], [None, None, 0], [0, 1, 0]):
            self.assertIs(obeys((picks, []), plan), False)

    def test_an_order_that_just_holds_and_just_does_not(self):
        none = [None, None]
        self.assertIs(obeys((none, [(0, 1)]), ([(0, 3, 0), (3, 5, 0)], [])), True)
        self.assertIs(obeys((none, [(0, 1)]), ([(0, 3, 0), (4, 5, 0)], [])), True)
        self.assertIs(obeys((none, [(0, 1)]), ([(0, 4, 0), (3, 5, 0)], [])), False)
        self.assertIs(obeys((none, [(1, 0)]), ([(0, 3, 0), (3, 5, 0)], [])), False)
        self.assertIs(obeys((none, [(1, 0)]), ([(5, 8, 0), (3, 5, 0)], [])), True)

    def test_each_order_counts(self):
        plan = ([(0, 3, 0), (3, 5, 0), (4, 9, 0)], [])
        none = [None, None, None]
        self.assertIs(obeys((none, [(0, 1), (0, 2), (0, 1)]), plan), True)
        self.assertIs(obeys((none, [(1, 2), (0, 1)]), plan), False)
        self.assertIs(obeys((none, [(0, 1), (1, 2)]), plan), False)

    def test_by_the_words_alone(self):
        plan = ([(-5, -9, 0), (-9, 2, 1)], [-1])
        self.assertIs(obeys(([0, 1], [(0, 1)]), plan), True)
        self.assertIs(obeys(([0, 1], [(1, 0)]), plan), False)

    def test_picks_and_orders(self):
        plan = ([(0, 3, 0), (3, 5, 1)], [])
        self.assertIs(obeys(([0, 1], [(0, 1)]), plan), True)
        self.assertIs(obeys(([0, 0], [(0, 1)]), plan), False)
        self.assertIs(obeys(([0, 1], [(1, 0)]), plan), False)


class Arcs(unittest.TestCase):
    def test_no_tasks(self):
        self.assertEqual(arcs_of(Net({}, [], []), ([], [])), [])
        arcs = [(1, 0, -2), (0, 1, 3)]
        self.assertEqual(arcs_of(Net({}, [], arcs, None, 2), ([], [])), arcs)

    def test_the_start_case(self):
        net = net_of(ONE_WAY, TWO_WAYS, arcs=[(3, 4, 7), (0, 0, -1), (3, 4, 7)], moments=1)
        wanted = [(3, 4, 7), (0, 0, -1), (3, 4, 7), (0, 1, 2), (1, 0, -6), (2, 3, 1), (3, 2, -9)]
        self.assertEqual(arcs_of(net, start_case(net)), wanted)

    def test_least_and_most_of_unlike_ways(self):
        net = net_of([(2, 9, []), (3, 5, [])], [(3, 5, []), (2, 9, [])], [(4, 4, []), (7, 8, [])])
        wanted = [(0, 1, 2), (1, 0, -9), (2, 3, 2), (3, 2, -9), (4, 5, 4), (5, 4, -8)]
        self.assertEqual(arcs_of(net, start_case(net)), wanted)

    def test_picks_and_orders(self):
        net = net_of(ONE_WAY, TWO_WAYS, TWO_WAYS, arcs=[(6, 0, 7)], moments=1)
        case = ([0, 0, 1], [(2, 1), (0, 2), (2, 1), (1, 0)])
        tasks = [(0, 1, 2), (1, 0, -6), (2, 3, 3), (3, 2, -4), (4, 5, 1), (5, 4, -9)]
        orders = [(5, 2, 0), (1, 4, 0), (5, 2, 0), (3, 0, 0)]
        self.assertEqual(arcs_of(net, case), [(6, 0, 7)] + tasks + orders)

    def test_handed_in_stays_and_told_is_new(self):
        net = net_of(ONE_WAY, TWO_WAYS, arcs=[(0, 2, 1)])
        case = ([None, 1], [(0, 1)])
        before = copy.deepcopy((net_shown(net), case))
        told = arcs_of(net, case)
        self.assertIs(type(told), list)
        wanted = list(told)
        told.clear()
        self.assertEqual(arcs_of(net, case), wanted)
        self.assertEqual((net_shown(net), case), before)

    def test_a_plan_that_fits_and_obeys_keeps_them_all(self):
        chance = random.Random(35)
        kept = 0
        for _ in range(3000):
            net = chance_net(chance, 3)
            plan, case = chance_plan(chance, net), chance_case(chance, net)
            if plan_fits(net, plan) and obeys(case, plan):
                for p, q, lag in arcs_of(net, case):
                    self.assertGreaterEqual(time_of(plan, q), time_of(plan, p) + lag)
                kept += len(net.tasks) > 1
        self.assertGreater(kept, 100)


class Wants(unittest.TestCase):
    ways = [(3, 4, [("pot", 2, 0), ("axe", 1, 0)]), (4, 9, [("pot", 1, 7)])]
    net = Net({"pot": 3, "axe": 2, "oven": 1}, [ways, ways[:1], [(5, 5, []), (6, 6, [("pot", 3, 0)])]], [])

    def both(self, picks, i, tool):
        case = (picks, [(0, 1)])
        return (want_of(self.net, case, i, tool), work_of(self.net, case, i, tool))

    def test_the_least_over_the_open_ways(self):
        none = [None, None, None]
        self.assertEqual(self.both(none, 0, "pot"), (1, 4))
        self.assertEqual(self.both(none, 1, "pot"), (2, 6))
        self.assertEqual(self.both(none, 1, "axe"), (1, 3))

    def test_a_way_that_does_not_use_the_tool(self):
        none = [None, None, None]
        self.assertEqual(self.both(none, 0, "axe"), (0, 0))
        self.assertEqual(self.both(none, 2, "pot"), (0, 0))
        for i in range(3):
            self.assertEqual(self.both(none, i, "oven"), (0, 0))

    def test_picked(self):
        self.assertEqual(self.both([0, 0, 1], 0, "pot"), (2, 6))
        self.assertEqual(self.both([0, 0, 1], 0, "axe"), (1, 3))
        self.assertEqual(self.both([0, 0, 1], 2, "pot"), (3, 18))
        self.assertEqual(self.both([1, 0, 0], 0, "pot"), (1, 4))
        self.assertEqual(self.both([1, 0, 0], 0, "axe"), (0, 0))
        self.assertEqual(self.both([1, 0, 0], 2, "pot"), (0, 0))

    def test_want_and_work_of_unlike_ways(self):
        net = Net({"pot": 3}, [[(1, 9, [("pot", 3, 0)]), (5, 5, [("pot", 1, 0)])]], [])
        self.assertEqual(want_of(net, ([None], []), 0, "pot"), 1)
        self.assertEqual(work_of(net, ([None], []), 0, "pot"), 3)

    def test_the_greatest_work(self):
        net = Net({"pot": 8}, [[(10**9, 10**9, [("pot", 8, 10**9)])]], [])
        self.assertEqual(work_of(net, ([None], []), 0, "pot"), 8 * 10**9)


class UnlikeHeats(unittest.TestCase):
    def assert_unlike(self, net, picks, wanted):
        self.assertIs(unlike_heats(net, (picks, []), 0, 1), wanted)
        self.assertIs(unlike_heats(net, (picks, []), 1, 0), wanted)

    def test_one_way_each(self):
        none = [None, None]
        self.assert_unlike(heats_net([{}], [{}]), none, False)
        self.assert_unlike(heats_net([{"pot": 5}], [{}]), none, False)
        self.assert_unlike(heats_net([{"pot": 5}], [{"axe": 6}]), none, False)
        self.assert_unlike(heats_net([{"pot": 5}], [{"pot": 5}]), none, False)
        self.assert_unlike(heats_net([{"pot": 5}], [{"pot": 6}]), none, True)
        self.assert_unlike(heats_net([{"pot": 0}], [{"pot": 6}]), none, True)

    def test_unlike_at_one_of_two_tools(self):
        none = [None, None]
        self.assert_unlike(heats_net([{"pot": 5, "axe": 1}], [{"pot": 5, "axe": 2}]), none, True)
        self.assert_unlike(heats_net([{"pot": 4, "axe": 1}], [{"pot": 5, "axe": 1}]), none, True)
        self.assert_unlike(heats_net([{"pot": 4, "axe": 1}], [{"axe": 1, "pot": 5}]), none, True)
        self.assert_unlike(heats_net([{"pot": 5, "axe": 1}], [{"axe": 1, "pot": 5}]), none, False)
        self.assert_unlike(heats_net([{"pot": 5, "oven": 1}], [{"axe": 1, "pot": 5}]), none, False)

    def test_each_two_ways_count(self):
        net = heats_net([{"pot": 5}, {"pot": 6}], [{"pot": 7}, {"pot": 8}])
        self.assert_unlike(net, [None, None], True)
        net = heats_net([{"pot": 5}, {"pot": 6}], [{"pot": 7}, {"pot": 6}])
        for picks, wanted in (
            ([None, None], False),
            ([0, None], True),
            ([1, None], False),
            ([None, 0], True),
            ([None, 1], False),
            ([1, 1], False),
            ([0, 1], True),
            ([1, 0], True),
        ):
            self.assert_unlike(net, picks, wanted)

    def test_some_two_ways_without_a_tool_in_common(self):
        net = heats_net([{"pot": 5}, {"axe": 6}], [{"pot": 7}])
        self.assert_unlike(net, [None, None], False)
        self.assert_unlike(net, [0, None], True)
        self.assert_unlike(net, [1, None], False)
        self.assert_unlike(heats_net([{"pot": 5}, {"axe": 6}], [{"pot": 7, "axe": 7}]), [None, None], True)

    def test_each_two_ways_by_a_tool_of_their_own(self):
        net = heats_net([{"pot": 5, "axe": 1}], [{"pot": 6}, {"axe": 2}])
        self.assert_unlike(net, [None, None], True)

    def test_other_tasks_and_orders_do_not_count(self):
        net = heats_net([{"pot": 5}], [{"pot": 5}], [{"pot": 6}])
        for i, j, wanted in ((0, 1, False), (0, 2, True), (2, 1, True)):
            self.assertIs(unlike_heats(net, ([None, None, None], [(0, 2)]), i, j), wanted)


class ByChance(unittest.TestCase):
    def test_by_the_words(self):
        chance = random.Random(36)
        unlike, wanted = 0, 0
        for _ in range(1500):
            net = chance_net(chance)
            case = chance_case(chance, net)
            before = copy.deepcopy((net_shown(net), case))
            picked = [ways if pick is None else ways[pick : pick + 1] for ways, pick in zip(net.tasks, case[0])]
            uses = [[{use[0]: use for use in way[2]} for way in ways] for ways in picked]
            for i in range(len(picked)):
                self.assertEqual(open_ways(net, case, i), picked[i])
                for tool in net.tools:
                    many = [way.get(tool, (tool, 0, 0))[1] for way in uses[i]]
                    self.assertEqual(want_of(net, case, i, tool), min(many))
                    work = min(many[k] * picked[i][k][0] for k in range(len(many)))
                    self.assertEqual(work_of(net, case, i, tool), work)
                    wanted += work > 0
                for j in range(len(picked)):
                    by_words = all(
                        any(one[tool][2] != other[tool][2] for tool in one.keys() & other.keys())
                        for one in uses[i]
                        for other in uses[j]
                    )
                    if i != j:
                        self.assertIs(unlike_heats(net, case, i, j), by_words)
                        unlike += by_words
            self.assertEqual((net_shown(net), case), before)
        self.assertGreater(unlike, 200)
        self.assertGreater(wanted, 1000)


if __name__ == "__main__":
    unittest.main()
