import copy
import random
import unittest

from helping import chance_net, chance_plan, net_shown
from stovework.errors import NoPlan, StoveError
from stovework.nets import Net
from stovework.plans import breaches, is_plan, length_of, plan_fits, runs_meet, time_of

GREAT = 10**59


def plain_net(many, apart=None, arcs=(), moments=0):
    """So many tasks of 2 to 4 turns, without tools."""
    return Net({}, [[(2, 4, [])] for _ in range(many)], list(arcs), apart, moments)


def using(*uses):
    """Three pots and two axes; a task for each list of uses, of 1 to 9 turns."""
    return Net({"pot": 3, "axe": 2}, [[(1, 9, list(each))] for each in uses], [])


def runs(*spans):
    """A plan without moments, each task in its first way."""
    return ([(begin, end, 0) for begin, end in spans], [])


def breaches_by_words(net, plan):
    """The breaches by the words of the promise, turn by turn."""
    done, times = plan
    points = [time for run in done for time in run[:2]] + times
    uses = [{use[0]: use for use in net.tasks[i][run[2]][2]} for i, run in enumerate(done)]
    told = []
    for i, (begin, end, way) in enumerate(done):
        least, most, _ = net.tasks[i][way]
        if begin < 0 or end - begin < least or end - begin > most:
            told.append(("turns", i))
    told += [("moment", k) for k, time in enumerate(times) if time < 0]
    told += [("arc", k) for k, (p, q, lag) in enumerate(net.arcs) if not points[q] >= points[p] + lag]

    def meet(i, j):
        return done[i][0] < done[j][1] and done[j][0] < done[i][1]

    told += [("apart", k) for k, (i, j) in enumerate(net.apart) if meet(i, j)]
    for tool in sorted(net.tools):
        for t in sorted({run[0] for run in done}):
            at_work = [i for i, run in enumerate(done) if t in range(run[0], run[1]) and tool in uses[i]]
            if sum(uses[i][tool][1] for i in at_work) > net.tools[tool]:
                told.append(("tool", tool, t))
    for tool in sorted(net.tools):
        for i in range(len(done)):
            for j in range(i + 1, len(done)):
                if tool in uses[i] and tool in uses[j] and uses[i][tool][2] != uses[j][tool][2] and meet(i, j):
                    told.append(("heat", tool, i, j))
    return told


class Checks(unittest.TestCase):
    def assert_no_plan(self, net, plan):
        self.assertIs(is_plan(net, plan), False)
        for asked in (breaches, plan_fits):
            with self.assertRaises(StoveError) as caught:
                asked(net, plan)
            self.assertIs(type(caught.exception), NoPlan)

    def assert_breaches(self, net, plan, wanted):
        self.assertIs(is_plan(net, plan), True)
        self.assertEqual(breaches(net, plan), wanted)
        self.assertIs(plan_fits(net, plan), wanted == [])


class Plans(Checks):
    def test_lists_as_long_as_they_must_be(self):
        net = plain_net(2, None, [], 1)
        run = (0, 2, 0)
        self.assertIs(is_plan(net, ([run, run], [5])), True)
        self.assertIs(is_plan(net, ([(-9, -90, 0), (GREAT, -GREAT, 0)], [-GREAT])), True)
        for done in ([], [run], [run, run, run]):
            self.assert_no_plan(net, (done, [5]))
        for times in ([], [5, 5]):
            self.assert_no_plan(net, ([run, run], times))
        self.assert_no_plan(net, ([run], [5, 5]))
        self.assert_no_plan(net, ([], []))

    def test_a_net_without_points(self):
        self.assert_breaches(Net({}, [], []), ([], []), [])
        self.assert_no_plan(Net({}, [], []), ([(0, 1, 0)], []))
        self.assert_no_plan(Net({}, [], []), ([], [0]))

    def test_ways_that_are_not_there(self):
        net = Net({}, [[(2, 4, [])], [(2, 4, []), (1, 1, [])]], [])
        for ways in ((0, 0), (0, 1)):
            self.assertIs(is_plan(net, ([(0, 2, ways[0]), (0, 2, ways[1])], [])), True)
        for ways in ((1, 0), (2, 0), (0, 2), (0, 3), (-1, 0), (0, -1), (0, -2), (1, 1), (0, GREAT)):
            self.assert_no_plan(net, ([(0, 2, ways[0]), (0, 2, ways[1])], []))

    def test_times_of_points(self):
        plan = ([(3, 7, 0), (-5, GREAT, 1)], [11, -2, 0])
        self.assertEqual([time_of(plan, point) for point in range(7)], [3, 7, -5, GREAT, 11, -2, 0])
        self.assertEqual([time_of(([], [4, 5]), point) for point in range(2)], [4, 5])
        self.assertEqual([time_of(([(1, 2, 0)], []), point) for point in range(2)], [1, 2])

    def test_lengths(self):
        self.assertEqual(length_of(([], [])), 0)
        self.assertEqual(length_of(([(-9, -3, 0)], [-1])), 0)
        self.assertEqual(length_of(([(0, 0, 0)], [])), 0)
        self.assertEqual(length_of(([(2, 7, 0), (3, 5, 0)], [])), 7)
        self.assertEqual(length_of(([(3, 5, 0), (2, 7, 0)], [1])), 7)
        self.assertEqual(length_of(([(2, 7, 0)], [3, 8, 1])), 8)
        self.assertEqual(length_of(([(2, 7, 0)], [3, 1, 9])), 9)
        self.assertEqual(length_of(([], [4])), 4)
        self.assertEqual(length_of(([], [-4])), 0)
        self.assertEqual(length_of(([(9, 7, 1)], [3])), 9)
        self.assertEqual(length_of(([(0, GREAT, 0)], [3])), GREAT)


class Meet(unittest.TestCase):
    def assert_meet(self, one, other, wanted):
        for first, second in ((one, other), (other, one)):
            self.assertIs(runs_meet((*first, 0), (*second, 1)), wanted)

    def test_side_by_side(self):
        self.assert_meet((0, 3), (3, 5), False)
        self.assert_meet((0, 3), (4, 5), False)
        self.assert_meet((0, 3), (2, 5), True)
        self.assert_meet((-5, -3), (-4, 0), True)

    def test_one_in_the_other(self):
        self.assert_meet((0, 9), (3, 5), True)
        self.assert_meet((0, 9), (0, 5), True)
        self.assert_meet((0, 9), (4, 9), True)
        self.assert_meet((0, 9), (0, 9), True)

    def test_without_length(self):
        self.assert_meet((0, 5), (3, 3), True)
        self.assert_meet((0, 5), (0, 0), False)
        self.assert_meet((0, 5), (5, 5), False)
        self.assert_meet((3, 3), (3, 3), False)
        self.assert_meet((3, 3), (4, 4), False)

    def test_that_end_ahead_of_their_begin(self):
        self.assert_meet((5, 2), (0, 9), True)
        self.assert_meet((5, 2), (3, 4), False)
        self.assert_meet((5, 2), (5, 2), False)
        self.assert_meet((5, 2), (0, 5), False)
        self.assert_meet((5, 2), (2, 9), False)


class Breaches(Checks):
    def test_turns(self):
        net = Net({}, [[(2, 4, []), (6, 6, [])]], [])
        for way, begin, end, fits in (
            (0, 0, 2, True),
            (0, 0, 4, True),
            (0, 5, 8, True),
            (0, 0, 1, False),
            (0, 0, 5, False),
            (0, 0, 6, False),
            (1, 0, 6, True),
            (1, 0, 5, False),
            (1, 0, 7, False),
            (1, 0, 2, False),
            (0, -1, 1, False),
            (0, -1, 2, False),
            (0, 3, 3, False),
            (0, 5, 3, False),
            (0, GREAT, GREAT + 4, True),
        ):
            self.assert_breaches(net, ([(begin, end, way)], []), [] if fits else [("turns", 0)])
        self.assert_breaches(plain_net(3), runs((-1, 0), (0, 2), (0, 9)), [("turns", 0), ("turns", 2)])

    def test_moments(self):
        net = plain_net(0, None, [], 4)
        self.assert_breaches(net, ([], [0, 1, 0, GREAT]), [])
        self.assert_breaches(net, ([], [-1, 0, -GREAT, 5]), [("moment", 0), ("moment", 2)])

    def test_arcs(self):
        net = plain_net(2, None, [(1, 2, 3)])
        self.assert_breaches(net, runs((0, 2), (5, 7)), [])
        self.assert_breaches(net, runs((0, 2), (4, 6)), [("arc", 0)])
        net = plain_net(2, None, [(2, 1, -3)])
        self.assert_breaches(net, runs((0, 2), (5, 7)), [])
        self.assert_breaches(net, runs((0, 2), (6, 8)), [("arc", 0)])

    def test_arcs_from_a_point_to_itself(self):
        net = plain_net(1, None, [(0, 0, 0), (0, 0, 1), (1, 1, -1), (1, 1, 9)])
        self.assert_breaches(net, runs((3, 5)), [("arc", 1), ("arc", 3)])

    def test_arcs_of_moments(self):
        net = plain_net(1, None, [(1, 2, 0), (2, 1, -2), (2, 3, 4)], 2)
        self.assert_breaches(net, ([(0, 2, 0)], [4, 8]), [])
        self.assert_breaches(net, ([(0, 2, 0)], [5, 8]), [("arc", 1), ("arc", 2)])
        self.assert_breaches(net, ([(0, 2, 0)], [1, 8]), [("arc", 0)])

    def test_alike_arcs_are_all_told(self):
        net = plain_net(1, None, [(0, 1, 9), (0, 1, 0), (0, 1, 9)])
        self.assert_breaches(net, runs((0, 2)), [("arc", 0), ("arc", 2)])

    def test_apart(self):
        net = plain_net(3, [(2, 0), (0, 1), (1, 2), (0, 2)])
        self.assert_breaches(net, runs((0, 2), (2, 4), (4, 6)), [])
        self.assert_breaches(net, runs((0, 3), (4, 6), (2, 4)), [("apart", 0), ("apart", 3)])
        self.assert_breaches(net, runs((0, 3), (1, 3), (2, 4)), [("apart", 0), ("apart", 1), ("apart", 2), ("apart", 3)])
        self.assert_breaches(plain_net(3, [(0, 1)]), runs((0, 2), (2, 4), (1, 3)), [])

    def test_tools(self):
        net = using([("pot", 2, 0)], [("pot", 1, 0)], [("pot", 1, 0)])
        self.assert_breaches(net, runs((0, 5), (0, 2), (2, 4)), [])
        self.assert_breaches(net, runs((0, 5), (0, 3), (2, 4)), [("tool", "pot", 2)])
        self.assert_breaches(net, runs((2, 5), (0, 4), (1, 3)), [("tool", "pot", 2)])
        self.assert_breaches(net, runs((0, 5), (5, 6), (5, 7)), [])

    def test_tools_at_each_begin_whatever_it_uses(self):
        net = using([("pot", 2, 0)], [("pot", 2, 0)], [], [("axe", 1, 0)], [])
        spans = ((0, 6), (1, 5), (3, 4), (5, 6), (3, 7))
        self.assert_breaches(net, runs(*spans), [("tool", "pot", 1), ("tool", "pot", 3)])
        spans = ((0, 6), (1, 6), (4, 5), (5, 6), (6, 7))
        self.assert_breaches(net, runs(*spans), [("tool", "pot", 1), ("tool", "pot", 4), ("tool", "pot", 5)])

    def test_turns_of_tools_rise_and_names_are_sorted(self):
        both = [("pot", 2, 0), ("axe", 2, 0)]
        net = using(both, both, both)
        for spans, turns in ((((7, 8), (2, 9), (1, 8)), (2, 7)), (((7, 8), (7, 9), (2, 11)), (7,))):
            wanted = [("tool", name, turn) for name in ("axe", "pot") for turn in turns]
            self.assert_breaches(net, runs(*spans), wanted)

    def test_runs_without_length_use_nothing(self):
        net = using([("pot", 3, 0)], [("pot", 3, 0)])
        self.assert_breaches(net, runs((0, 5), (3, 3)), [("turns", 1)])
        self.assert_breaches(net, runs((0, 5), (4, 3)), [("turns", 1)])
        self.assert_breaches(net, runs((5, 2), (3, 4)), [("turns", 0)])

    def test_tools_by_the_ways(self):
        net = Net({"pot": 1}, [[(1, 9, [("pot", 1, 0)])], [(1, 9, [("pot", 1, 0)]), (1, 9, [])]], [])
        self.assert_breaches(net, ([(0, 5, 0), (3, 6, 0)], []), [("tool", "pot", 3)])
        self.assert_breaches(net, ([(0, 5, 0), (3, 6, 1)], []), [])

    def test_heats(self):
        net = using([("pot", 1, 5)], [("pot", 1, 6)], [("pot", 1, 5)])
        self.assert_breaches(net, runs((0, 5), (5, 6), (0, 5)), [])
        self.assert_breaches(net, runs((0, 5), (4, 6), (6, 7)), [("heat", "pot", 0, 1)])
        self.assert_breaches(net, runs((6, 7), (4, 6), (0, 5)), [("heat", "pot", 1, 2)])
        self.assert_breaches(net, runs((0, 5), (4, 6), (5, 7)), [("heat", "pot", 0, 1), ("heat", "pot", 1, 2)])

    def test_a_cold_heat_is_one_like_any_other(self):
        net = using([("pot", 1, 0)], [("pot", 1, 6)])
        self.assert_breaches(net, runs((0, 5), (4, 6)), [("heat", "pot", 0, 1)])

    def test_heats_of_tools_that_one_does_not_use(self):
        net = using([("pot", 1, 5)], [("axe", 1, 6)], [])
        self.assert_breaches(net, runs((0, 5), (0, 5), (0, 5)), [])

    def test_heats_by_the_ways(self):
        net = Net({"pot": 2}, [[(1, 9, [("pot", 1, 5)])], [(1, 9, [("pot", 1, 5)]), (1, 9, [("pot", 1, 6)])]], [])
        self.assert_breaches(net, ([(0, 5, 0), (3, 6, 0)], []), [])
        self.assert_breaches(net, ([(0, 5, 0), (3, 6, 1)], []), [("heat", "pot", 0, 1)])

    def test_the_order_of_heats(self):
        net = using(*[[("pot", 1, heat), ("axe", 1, heat)] for heat in (1, 2, 1)])
        told = breaches(net, runs((2, 9), (1, 9), (0, 9)))
        wanted = [("heat", name, i, j) for name in ("axe", "pot") for i, j in ((0, 1), (1, 2))]
        self.assertEqual(told, [("tool", "axe", 2)] + wanted)

    def test_heats_of_runs_without_length(self):
        net = using([("pot", 1, 5)], [("pot", 1, 6)])
        self.assert_breaches(net, runs((0, 5), (3, 3)), [("turns", 1), ("heat", "pot", 0, 1)])
        self.assert_breaches(net, runs((0, 5), (5, 5)), [("turns", 1)])

    def test_all_together_in_their_order(self):
        uses = [("pot", 2, 5), ("axe", 1, 0)]
        tasks = [[(2, 4, uses)], [(2, 4, uses), (5, 5, [("pot", 2, 6), ("axe", 2, 1)])], [(1, 1, [])]]
        net = Net({"pot": 3, "axe": 2}, tasks, [(0, 1, 0), (1, 2, 0), (6, 7, 0)], [(0, 2), (1, 0)], 2)
        plan = ([(0, 5, 0), (3, 8, 1), (-1, 0, 0)], [-4, -5])
        self.assert_breaches(
            net,
            plan,
            [
                ("turns", 0),
                ("turns", 2),
                ("moment", 0),
                ("moment", 1),
                ("arc", 1),
                ("arc", 2),
                ("apart", 1),
                ("tool", "axe", 3),
                ("tool", "pot", 3),
                ("heat", "axe", 0, 1),
                ("heat", "pot", 0, 1),
            ],
        )

    def test_a_plan_that_fits(self):
        tasks = [[(2, 4, [("pot", 1, 5)])], [(3, 3, [("pot", 1, 6)])], [(1, 1, [("pot", 1, 6)])]]
        net = Net({"pot": 2}, tasks, [(1, 6, 0), (3, 6, 0), (5, 6, 0)], [(1, 2)], 1)
        self.assert_breaches(net, ([(0, 2, 0), (2, 5, 0), (5, 6, 0)], [6]), [])

    def test_handed_in_stays_and_told_is_new(self):
        net = using([("pot", 2, 5)], [("pot", 2, 6)])
        plan = runs((0, 5), (3, 6))
        before = copy.deepcopy((net_shown(net), plan))
        wanted = [("tool", "pot", 3), ("heat", "pot", 0, 1)]
        told = breaches(net, plan)
        self.assertIs(type(told), list)
        self.assertEqual({type(row) for row in told}, {tuple})
        told.clear()
        self.assert_breaches(net, plan, wanted)
        length_of(plan)
        self.assertEqual((net_shown(net), plan), before)

    def test_by_chance_by_the_words(self):
        chance = random.Random(28)
        fits, kinds = 0, set()
        for _ in range(3000):
            net = chance_net(chance)
            plan = chance_plan(chance, net)
            wanted = breaches_by_words(net, plan)
            self.assert_breaches(net, plan, wanted)
            self.assertEqual(length_of(plan), max([0] + [time for run in plan[0] for time in run[:2]] + plan[1]))
            fits += wanted == []
            kinds.update(row[0] for row in wanted)
        self.assertEqual(kinds, {"turns", "moment", "arc", "apart", "tool", "heat"})
        self.assertGreater(fits, 300)


if __name__ == "__main__":
    unittest.main()
