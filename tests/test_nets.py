import copy
import random
import unittest

from helping import chance_net, net_shown
from stovework.errors import NoNet, StoveError
from stovework.nets import Net, points_of

GREAT = 10**9
NAMES = ["a", "b", "c", "d", "e", "f", "g", "h", "i", "j", "k", "l", "m"]


def with_way(least=1, most=1, uses=()):
    """A net of one task with this one way, four pots and an axe."""
    return Net({"pot": 4, "axe": 1}, [[(least, most, list(uses))]], [])


def with_tasks(many, arcs=(), apart=None, moments=0):
    return Net({}, [[(1, 1, [])] for _ in range(many)], list(arcs), apart, moments)


class Checks(unittest.TestCase):
    def assert_no_net(self, made, *things):
        with self.assertRaises(StoveError) as caught:
            made(*things)
        self.assertIs(type(caught.exception), NoNet)


class Values(Checks):
    def test_all_told(self):
        tasks = [[(1, 2, [("pot", 2, 9)])], [(3, 4, []), (5, 6, [("pot", 1, 0), ("axe", 1, 7)])]]
        net = Net({"pot": 3, "axe": 1}, tasks, [(0, 4, -5), (1, 2, 0)], [(1, 0), (0, 1)], 1)
        self.assertEqual(net.tools, {"pot": 3, "axe": 1})
        self.assertEqual(net.tasks, tasks)
        self.assertEqual(net.arcs, [(0, 4, -5), (1, 2, 0)])
        self.assertEqual(net.apart, [(1, 0), (0, 1)])
        self.assertEqual(net.moments, 1)

    def test_left_out(self):
        net = Net({}, [], [])
        self.assertEqual(net_shown(net), ({}, [], [], [], 0))
        self.assertEqual(net_shown(Net({}, [], [], None)), ({}, [], [], [], 0))
        net = Net({}, [], [], None, 3)
        self.assertEqual((net.apart, net.moments), ([], 3))

    def test_lists_left_out_are_no_ones_else(self):
        first = Net({}, [], [])
        first.apart.append((0, 1))
        self.assertEqual(Net({}, [], []).apart, [])

    def test_points(self):
        self.assertEqual(points_of(Net({}, [], [])), 0)
        self.assertEqual(points_of(Net({}, [], [], None, 8)), 8)
        self.assertEqual(points_of(with_tasks(1)), 2)
        self.assertEqual(points_of(with_tasks(24, [], None, 8)), 56)
        self.assertEqual(points_of(with_tasks(3, [], None, 1)), 7)

    def test_copies_through_and_through(self):
        first_uses, second_uses = [("pot", 2, 9)], [("pot", 1, 0), ("axe", 1, 7)]
        ways, other_ways = [(1, 2, first_uses)], [(3, 4, []), (5, 6, second_uses)]
        tools, tasks, arcs, apart = {"pot": 3, "axe": 1}, [ways, other_ways], [(0, 4, -5)], [(1, 0)]
        handed_in = copy.deepcopy((tools, tasks, arcs, apart, 1))
        net = Net(tools, tasks, arcs, apart, 1)
        self.assertEqual((tools, tasks, arcs, apart, 1), handed_in)
        self.assertEqual(net_shown(net), handed_in)
        first_uses.append(("axe", 1, 0))
        self.assertEqual(net_shown(net), handed_in)
        second_uses[0] = ("axe", 9, 9)
        self.assertEqual(net_shown(net), handed_in)
        ways[0] = (9, 9, [])
        other_ways.pop()
        self.assertEqual(net_shown(net), handed_in)
        tasks.clear()
        self.assertEqual(net_shown(net), handed_in)
        tools["pot"] = 1
        tools["fork"] = 1
        self.assertEqual(net_shown(net), handed_in)
        arcs[0] = (0, 0, 0)
        apart.append((0, 1))
        self.assertEqual(net_shown(net), handed_in)

    def test_tasks_that_share_lists_are_parted(self):
        ways = [(1, 2, [("pot", 1, 0)])]
        net = Net({"pot": 1}, [ways, ways], [])
        net.tasks[0][0][2].clear()
        net.tasks[0].append((1, 1, []))
        self.assertEqual(net.tasks[1], [(1, 2, [("pot", 1, 0)])])
        self.assertEqual(ways, [(1, 2, [("pot", 1, 0)])])

    def test_kinds(self):
        net = Net({"pot": 3}, [[(1, 2, [("pot", 2, 9)])]], [(0, 1, 0)], [], 1)
        self.assertIs(type(net.tools), dict)
        for each in (net.tasks, net.tasks[0], net.tasks[0][0][2], net.arcs, net.apart):
            self.assertIs(type(each), list)
        self.assertIs(type(net.tasks[0][0]), tuple)

    def test_nets_by_chance_keep_what_is_handed_in(self):
        chance = random.Random(25)
        for _ in range(200):
            net = chance_net(chance)
            shown = net_shown(net)
            self.assertEqual(net_shown(Net(*shown)), shown)
            self.assertEqual(points_of(net), 2 * len(shown[1]) + shown[4])


class Tools(Checks):
    def test_how_many_tools(self):
        self.assertEqual(len(Net(dict.fromkeys(NAMES[:12], 1), [], []).tools), 12)
        self.assert_no_net(Net, dict.fromkeys(NAMES, 1), [], [])

    def test_their_numbers(self):
        for many in (1, 2, 7, 8):
            self.assertEqual(Net({"pot": many}, [], []).tools, {"pot": many})
        for many in (0, 9, -1, 10**60, -(10**59)):
            self.assert_no_net(Net, {"pot": many}, [], [])
            self.assert_no_net(Net, {"axe": 1, "pot": many, "fork": 1}, [], [])

    def test_their_names(self):
        for name in ("a", "z", "twelvesigns" + "x"):
            self.assertEqual(Net({name: 1}, [], []).tools, {name: 1})
        for name in ("", "Pot", "pot1", "big pot", "thirteensigns", "pot\n", "pot_", "\u00e9"):
            self.assert_no_net(Net, {name: 1}, [], [])
            self.assert_no_net(Net, {"axe": 1, name: 1, "fork": 1}, [], [])


class Tasks(Checks):
    def test_how_many(self):
        self.assertEqual(len(with_tasks(24).tasks), 24)
        self.assert_no_net(with_tasks, 25)

    def test_ways(self):
        way = (1, 1, [])
        self.assertEqual(Net({}, [[way], [way, way]], []).tasks, [[way], [way, way]])
        for ways in ([], [way, way, way]):
            self.assert_no_net(Net, {}, [ways], [])
            self.assert_no_net(Net, {}, [[way], ways, [way]], [])

    def test_least_and_most(self):
        for least, most in ((1, 1), (1, 2), (1, GREAT), (GREAT, GREAT), (GREAT - 1, GREAT)):
            self.assertEqual(with_way(least, most).tasks, [[(least, most, [])]])
        wrong = [(0, 1), (0, 0), (-1, 1), (2, 1), (GREAT, GREAT - 1), (1, GREAT + 1), (GREAT + 1, GREAT + 1), (1, 0)]
        for least, most in wrong:
            self.assert_no_net(with_way, least, most)
            fine = (1, 1, [])
            self.assert_no_net(Net, {}, [[fine], [fine, (least, most, [])], [fine]], [])

    def test_a_tool_twice_in_one_way(self):
        self.assert_no_net(with_way, 1, 1, [("pot", 1, 0), ("pot", 1, 0)])
        self.assert_no_net(with_way, 1, 1, [("pot", 1, 0), ("axe", 1, 0), ("pot", 2, 5)])
        self.assertEqual(len(with_way(1, 1, [("pot", 1, 0), ("axe", 1, 0)]).tasks), 1)
        both = [(1, 1, [("pot", 1, 0)]), (1, 1, [("pot", 1, 0)])]
        self.assertEqual(Net({"pot": 1}, [both, both], []).tasks, [both, both])

    def test_a_tool_that_is_none_of_the_nets(self):
        for tool in ("pots", "po", "fork", ""):
            self.assert_no_net(with_way, 1, 1, [(tool, 1, 0)])
            self.assert_no_net(with_way, 1, 1, [("pot", 1, 0), (tool, 1, 0)])
        self.assert_no_net(Net, {}, [[(1, 1, [("pot", 1, 0)])]], [])

    def test_how_many_of_a_tool(self):
        for many in (1, 2, 3, 4):
            self.assertEqual(with_way(1, 1, [("pot", many, 0)]).tasks[0][0][2], [("pot", many, 0)])
        for many in (0, 5, 8, -1):
            self.assert_no_net(with_way, 1, 1, [("pot", many, 0)])
        self.assert_no_net(with_way, 1, 1, [("pot", 1, 0), ("axe", 2, 0)])
        self.assert_no_net(Net, {"axe": 1}, [[(1, 1, []), (1, 1, [("axe", 2, 0)])]], [])

    def test_heats(self):
        for heat in (0, 1, GREAT - 1, GREAT):
            self.assertEqual(with_way(1, 1, [("pot", 1, heat)]).tasks[0][0][2], [("pot", 1, heat)])
        for heat in (-1, GREAT + 1, -GREAT, 10**60):
            self.assert_no_net(with_way, 1, 1, [("pot", 1, heat)])
            self.assert_no_net(with_way, 1, 1, [("axe", 1, 0), ("pot", 1, heat)])

    def test_as_many_uses_as_tools(self):
        uses = [(name, 1, 0) for name in NAMES[:12]]
        self.assertEqual(Net(dict.fromkeys(NAMES[:12], 1), [[(1, 1, uses)]], []).tasks, [[(1, 1, uses)]])


class Moments(Checks):
    def test_how_many(self):
        for moments in range(9):
            self.assertEqual(with_tasks(1, [], None, moments).moments, moments)
        for moments in (-1, 9, 10**60, -(10**59)):
            self.assert_no_net(with_tasks, 1, [], None, moments)


class Arcs(Checks):
    def test_how_many(self):
        self.assertEqual(len(with_tasks(1, [(0, 1, 0)] * 600).arcs), 600)
        self.assert_no_net(with_tasks, 1, [(0, 1, 0)] * 601)

    def test_points(self):
        for p in range(7):
            for q in range(7):
                self.assertEqual(with_tasks(3, [(p, q, 1)], None, 1).arcs, [(p, q, 1)])
        for point in (-1, 7, 8, 10**60, -7):
            self.assert_no_net(with_tasks, 3, [(point, 0, 1)], None, 1)
            self.assert_no_net(with_tasks, 3, [(0, point, 1)], None, 1)
            self.assert_no_net(with_tasks, 3, [(point, point, 1)], None, 1)
            self.assert_no_net(with_tasks, 3, [(0, 1, 1), (0, point, 1), (1, 2, 1)], None, 1)

    def test_no_points_at_all(self):
        self.assert_no_net(with_tasks, 0, [(0, 0, 0)])
        self.assertEqual(with_tasks(0, [(0, 0, 0)], None, 1).arcs, [(0, 0, 0)])

    def test_lags(self):
        for lag in (0, 1, -1, GREAT, -GREAT):
            self.assertEqual(with_tasks(1, [(0, 1, lag)]).arcs, [(0, 1, lag)])
        for lag in (GREAT + 1, -GREAT - 1, 10**60, -(10**59)):
            self.assert_no_net(with_tasks, 1, [(0, 1, lag)])
            self.assert_no_net(with_tasks, 1, [(0, 1, 0), (0, 1, lag), (0, 1, 0)])

    def test_p_may_be_q_and_arcs_may_be_alike(self):
        arcs = [(1, 1, 0), (1, 1, 5), (0, 1, 2), (0, 1, 2), (0, 0, -3)]
        self.assertEqual(with_tasks(1, arcs).arcs, arcs)


class Apart(Checks):
    def test_how_many(self):
        self.assertEqual(len(with_tasks(2, [], [(0, 1)] * 300).apart), 300)
        self.assert_no_net(with_tasks, 2, [], [(0, 1)] * 301)

    def test_in_either_order_and_more_than_once(self):
        pairs = [(0, 2), (2, 0), (0, 2), (1, 0), (2, 1)]
        self.assertEqual(with_tasks(3, [], pairs).apart, pairs)

    def test_alike(self):
        for task in range(3):
            self.assert_no_net(with_tasks, 3, [], [(task, task)])
            self.assert_no_net(with_tasks, 3, [], [(0, 1), (task, task), (1, 2)])

    def test_tasks_that_are_none_of_the_nets(self):
        for task in (-1, 3, 4, 10**60, -3):
            self.assert_no_net(with_tasks, 3, [], [(task, 0)])
            self.assert_no_net(with_tasks, 3, [], [(0, task)])
            self.assert_no_net(with_tasks, 3, [], [(0, 1), (task, 1), (1, 2)], 8)
        self.assert_no_net(with_tasks, 0, [], [(0, 1)], 8)
        self.assert_no_net(with_tasks, 1, [], [(0, 1)])


if __name__ == "__main__":
    unittest.main()
