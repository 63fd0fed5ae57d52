import copy
import random
import unittest

from helping import chance_net, chance_plan, net_shown
from stovework.errors import NoPlan, StoveError
from stovework.nets import Net
from stovework.plans import breaches, plan_fits
from stovework.rosters import roster


def using(*many):
    """Five pots; a task for each of these numbers, which uses so many of them, 0 for none, of 1 to 99 turns."""
    return Net({"pot": 5}, [[(1, 99, [("pot", each, 0)] if each else [])] for each in many], [])


def runs(*spans):
    return ([(begin, end, 0) for begin, end in spans], [])


def roster_by_words(net, plan):
    """The roster by the words of the promise."""
    told = {}
    for tool in net.tools:
        had = {}
        for i in sorted(range(len(plan[0])), key=lambda i: plan[0][i][0]):
            begin, _, way = plan[0][i]
            many = sum(use[1] for use in net.tasks[i][way][2] if use[0] == tool)
            taken = {piece for j in had if plan[0][j][0] <= begin < plan[0][j][1] for piece in had[j]}
            had[i] = [piece for piece in range(99) if piece not in taken][:many]
        told[tool] = [had[i] for i in range(len(plan[0]))]
    return told


class Rosters(unittest.TestCase):
    def told(self, net, *spans):
        return roster(net, runs(*spans))["pot"]

    def assert_refused(self, net, plan):
        with self.assertRaises(StoveError) as caught:
            roster(net, plan)
        self.assertIs(type(caught.exception), NoPlan)

    def test_without_tools_and_without_tasks(self):
        self.assertEqual(roster(Net({}, [], []), ([], [])), {})
        self.assertEqual(roster(Net({"pot": 2, "axe": 1}, [], []), ([], [])), {"pot": [], "axe": []})
        self.assertEqual(roster(Net({}, [[(1, 1, [])]], []), runs((0, 1))), {})

    def test_tasks_that_meet(self):
        self.assertEqual(self.told(using(2, 1, 2), (0, 9), (1, 9), (2, 9)), [[0, 1], [2], [3, 4]])
        self.assertEqual(self.told(using(2, 1, 2), (2, 9), (1, 9), (0, 9)), [[3, 4], [2], [0, 1]])

    def test_tasks_that_follow_one_another(self):
        self.assertEqual(self.told(using(2, 1, 3), (0, 2), (3, 5), (6, 9)), [[0, 1], [0], [0, 1, 2]])

    def test_runs_that_end_as_others_begin(self):
        self.assertEqual(self.told(using(2, 1, 5), (0, 3), (3, 5), (5, 9)), [[0, 1], [0], [0, 1, 2, 3, 4]])
        self.assertEqual(self.told(using(2, 1, 5), (5, 9), (3, 5), (0, 3)), [[0, 1], [0], [0, 1, 2, 3, 4]])

    def test_equal_begins_are_dealt_by_the_tasks_numbers(self):
        self.assertEqual(self.told(using(1, 2, 1), (4, 9), (4, 5), (4, 6)), [[0], [1, 2], [3]])
        self.assertEqual(self.told(using(1, 2, 1), (4, 9), (4, 5), (3, 6)), [[1], [2, 3], [0]])

    def test_pieces_freed_and_used_again(self):
        net = using(1, 1, 1, 1, 3)
        self.assertEqual(self.told(net, (0, 4), (0, 9), (0, 5), (4, 9), (6, 8)), [[0], [1], [2], [0], [2, 3, 4]])
        net = using(1, 1, 1, 2, 2)
        self.assertEqual(self.told(net, (0, 9), (0, 2), (0, 9), (2, 9), (20, 21)), [[0], [1], [2], [1, 3], [0, 1]])

    def test_tasks_that_do_not_use_the_tool(self):
        self.assertEqual(self.told(using(0, 2, 0), (0, 9), (0, 9), (0, 9)), [[], [0, 1], []])
        net = Net({"pot": 2, "axe": 3, "fork": 1}, [[(1, 9, [("axe", 2, 4)])], [(1, 9, [("pot", 1, 0)])]], [])
        wanted = {"pot": [[], [0]], "axe": [[0, 1], []], "fork": [[], []]}
        self.assertEqual(roster(net, runs((0, 5), (0, 5))), wanted)

    def test_by_the_ways(self):
        two_ways = [(1, 9, [("pot", 1, 0)]), (1, 9, [("pot", 2, 0), ("axe", 1, 0)])]
        net = Net({"pot": 3, "axe": 1}, [two_ways, two_ways], [])
        plan = ([(0, 5, 0), (0, 5, 1)], [])
        self.assertEqual(roster(net, plan), {"pot": [[0], [1, 2]], "axe": [[], [0]]})
        plan = ([(0, 5, 1), (0, 5, 0)], [])
        self.assertEqual(roster(net, plan), {"pot": [[0, 1], [2]], "axe": [[0], []]})

    def test_the_least_numbers_though_they_do_not_lie_side_by_side(self):
        net = using(1, 1, 1, 1, 3)
        self.assertEqual(self.told(net, (0, 3), (0, 9), (0, 3), (0, 9), (3, 9)), [[0], [1], [2], [3], [0, 2, 4]])

    def test_no_plan(self):
        net = using(1, 1)
        fine = (0, 5, 0)
        for plan in (([], []), ([fine], []), ([fine] * 3, []), ([fine] * 2, [0]), ([fine, (0, 5, 1)], [])):
            self.assert_refused(net, plan)
        self.assert_refused(net, ([fine, (0, 5, -1)], []))

    def test_a_plan_that_does_not_fit(self):
        self.assert_refused(using(3, 3), runs((0, 5), (4, 6)))
        self.assert_refused(using(1, 1), runs((-1, 5), (6, 7)))
        self.assert_refused(using(1), runs((5, 5)))
        self.assert_refused(using(1), runs((0, 100)))
        net = Net({"pot": 2}, [[(1, 9, [("pot", 1, heat)])] for heat in (0, 1)], [])
        self.assert_refused(net, runs((0, 5), (4, 6)))
        self.assertEqual(roster(net, runs((0, 5), (5, 6))), {"pot": [[0], [0]]})
        self.assert_refused(Net({}, [[(1, 1, [])]] * 2, [], [(0, 1)]), runs((0, 1), (0, 1)))
        self.assert_refused(Net({}, [[(1, 1, [])]], [(0, 1, 2)]), runs((0, 1)))
        self.assert_refused(Net({}, [], [], None, 1), ([], [-1]))

    def test_the_dict_and_its_lists_are_new_each_time(self):
        net = Net({"pot": 2, "axe": 1}, [[(1, 9, [("pot", 2, 0)])], [(1, 9, [])]], [])
        plan = runs((0, 5), (0, 5))
        before = copy.deepcopy((net_shown(net), plan))
        wanted = {"pot": [[0, 1], []], "axe": [[], []]}
        told = roster(net, plan)
        self.assertIs(type(told), dict)
        lists = [each for rows in told.values() for each in [rows] + rows]
        self.assertEqual({type(each) for each in lists}, {list})
        self.assertEqual(len({id(each) for each in lists}), len(lists))
        for each in lists:
            each.append(7)
        told.clear()
        self.assertEqual(roster(net, plan), wanted)
        self.assertEqual((net_shown(net), plan), before)

    def test_by_chance_by_the_words(self):
        chance = random.Random(31)
        fits = 0
        for _ in range(3000):
            net = chance_net(chance, 6)
            plan = chance_plan(chance, net, 20)
            if breaches(net, plan):
                self.assert_refused(net, plan)
                continue
            fits += 1
            told = roster(net, plan)
            self.assertEqual(told, roster_by_words(net, plan))
            self.assert_no_piece_at_two_places(net, plan, told)
        self.assertGreater(fits, 300)

    def test_crowded_plans_by_chance(self):
        chance = random.Random(32)
        for _ in range(200):
            net = using(*[chance.randint(0, 2) for _ in range(24)])
            plan = grown_plan(chance, net)
            told = roster(net, plan)
            self.assertEqual(told, roster_by_words(net, plan))
            self.assert_no_piece_at_two_places(net, plan, told)

    def assert_no_piece_at_two_places(self, net, plan, told):
        for tool, pieces in told.items():
            most = 0
            for turn in range(max([0] + [run[1] for run in plan[0]])):
                used = [each for run, some in zip(plan[0], pieces) if run[0] <= turn < run[1] for each in some]
                self.assertEqual(len(set(used)), len(used))
                most = max(most, len(used))
            numbers = [each for some in pieces for each in some]
            self.assertTrue(all(0 <= each < most <= net.tools[tool] for each in numbers))


def grown_plan(chance, net):
    """A plan that fits: each task in turn at a begin by chance, or behind all others where it doesn't fit there."""
    done = []
    for task in net.tasks:
        begin = chance.randint(0, 30)
        part = Net(net.tools, net.tasks[: len(done) + 1], [])
        run = (begin, begin + chance.randint(1, 12), 0)
        if not plan_fits(part, (done + [run], [])):
            late = max(each[1] for each in done)
            run = (late, late + 1, 0)
        done.append(run)
    return (done, [])


if __name__ == "__main__":
    unittest.main()
