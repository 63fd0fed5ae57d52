import copy
import itertools
import random
import unittest

from helping import chance_net, chance_plan, net_shown
from stovework.meets import crowd
from stovework.nets import Net


def pots(number, *manys, apart=()):
    """So many pots, and for each task one way of ten turns that uses so many of them."""
    return Net({"pot": number}, [[(1, 10, [("pot", many, 0)] if many else [])] for many in manys], [], list(apart))


def runs(*spans):
    return ([(begin, end, 0) for begin, end in spans], [])


def meet(one, other):
    return one[0] < other[1] and other[0] < one[1]


def uses_of(net, plan, i):
    return {tool: (many, heat) for tool, many, heat in net.tasks[i][plan[0][i][2]][2]}


def clash(net, plan, some):
    """Whether the tasks clash by their ways in the plan, by the words."""
    uses = {i: uses_of(net, plan, i) for i in some}
    for i, j in itertools.combinations(some, 2):
        if (i, j) in net.apart or (j, i) in net.apart:
            return True
        if any(uses[i][tool][1] != uses[j][tool][1] for tool in uses[i] if tool in uses[j]):
            return True
    if len(some) < 2:
        return False
    return any(sum(uses[i].get(tool, (0, 0))[0] for i in some) > number for tool, number in net.tools.items())


def has_crowd(net, plan):
    """The three conditions, one by one."""
    spans = plan[0]
    for i, j in itertools.combinations(range(len(spans)), 2):
        if meet(spans[i], spans[j]):
            one, other = uses_of(net, plan, i), uses_of(net, plan, j)
            if (i, j) in net.apart or (j, i) in net.apart:
                return True
            if any(one[tool][1] != other[tool][1] for tool in one if tool in other):
                return True
    for begin, _, _ in spans:
        for tool, number in net.tools.items():
            going = [i for i, span in enumerate(spans) if span[0] <= begin < span[1]]
            if sum(uses_of(net, plan, i).get(tool, (0, 0))[0] for i in going) > number:
                return True
    return False


class Crowds(unittest.TestCase):
    def crowd(self, net, plan):
        """The crowd, held against the words."""
        before = copy.deepcopy((net_shown(net), plan))
        told = crowd(net, plan)
        self.assertEqual((net_shown(net), plan), before)
        self.assertEqual(told is not None, has_crowd(net, plan))
        if told is not None:
            self.assertIsInstance(told, list)
            self.assertEqual(told, sorted(set(told)))
            self.assertTrue(set(told) <= set(range(len(net.tasks))))
            for i, j in itertools.combinations(told, 2):
                self.assertTrue(meet(plan[0][i], plan[0][j]))
            self.assertTrue(clash(net, plan, told))
            for i in told:
                self.assertFalse(clash(net, plan, [j for j in told if j != i]))
        return told


class ByHand(Crowds):
    def test_no_tasks_and_one(self):
        self.assertIsNone(self.crowd(Net({}, [], []), ([], [])))
        self.assertIsNone(self.crowd(Net({}, [], [], None, 2), ([], [4, 0])))
        self.assertIsNone(self.crowd(pots(1, 1), runs((3, 5))))

    def test_without_a_crowd(self):
        self.assertIsNone(self.crowd(pots(2, 1, 1), runs((0, 5), (0, 5))))
        self.assertIsNone(self.crowd(pots(1, 1, 0, 0), runs((0, 5), (0, 5), (1, 2))))
        self.assertIsNone(self.crowd(pots(1, 1, 1, 1), runs((4, 6), (0, 4), (6, 7))))

    def test_apart_that_meet_and_that_touch(self):
        for pair in ((0, 2), (2, 0)):
            net = pots(1, 0, 0, 0, apart=[pair])
            self.assertEqual(self.crowd(net, runs((0, 5), (0, 9), (4, 6))), [0, 2])
            self.assertEqual(self.crowd(net, runs((4, 6), (0, 9), (0, 5))), [0, 2])
            self.assertEqual(self.crowd(net, runs((0, 9), (0, 9), (4, 6))), [0, 2])
            self.assertEqual(self.crowd(net, runs((3, 4), (0, 9), (3, 4))), [0, 2])
            self.assertIsNone(self.crowd(net, runs((0, 5), (0, 9), (5, 6))))
            self.assertIsNone(self.crowd(net, runs((5, 6), (0, 9), (0, 5))))

    def test_unlike_heats_that_meet_and_that_touch(self):
        heats = [[(1, 9, [("oven", 1, heat)])] for heat in (180, 200, 180)]
        net = Net({"oven": 3}, heats, [])
        self.assertEqual(self.crowd(net, runs((0, 5), (4, 6), (6, 9))), [0, 1])
        self.assertEqual(self.crowd(net, runs((0, 4), (4, 6), (5, 9))), [1, 2])
        self.assertIsNone(self.crowd(net, runs((0, 4), (4, 6), (6, 9))))
        self.assertIsNone(self.crowd(net, runs((0, 4), (4, 6), (0, 3))))

    def test_heats_of_two_tools(self):
        net = Net({"oven": 2, "pan": 2}, [[(1, 9, [("oven", 1, 5)])], [(1, 9, [("pan", 1, 7)])]], [])
        self.assertIsNone(self.crowd(net, runs((0, 5), (0, 5))))

    def test_a_tool_just_to_its_number_and_one_beyond(self):
        for many in (2, 3, 4):
            spans = [(k, 10) for k in range(many)]
            self.assertIsNone(self.crowd(pots(many, *[1] * many), runs(*spans)))
            self.assertEqual(self.crowd(pots(many - 1, *[1] * many), runs(*spans)), list(range(many)))
            more = spans + [(0, 10)]
            self.assertEqual(len(self.crowd(pots(many - 1, *[1] * (many + 1)), runs(*more))), many)

    def test_uses_of_several_pieces(self):
        self.assertIsNone(self.crowd(pots(5, 2, 3), runs((0, 5), (4, 6))))
        self.assertEqual(self.crowd(pots(5, 3, 3), runs((0, 5), (4, 6))), [0, 1])
        self.assertEqual(self.crowd(pots(8, 8, 1), runs((0, 5), (4, 6))), [0, 1])
        self.assertEqual(self.crowd(pots(6, 3, 1, 3, 1), runs((0, 9), (0, 9), (0, 9), (9, 10))), [0, 1, 2])

    def test_runs_that_don_t_all_meet(self):
        # Each two of three neighbours meet, never all three.
        self.assertIsNone(self.crowd(pots(2, 1, 1, 1), runs((0, 5), (4, 9), (8, 12))))
        self.assertEqual(self.crowd(pots(2, 1, 1, 1), runs((0, 9), (4, 9), (8, 12))), [0, 1, 2])

    def test_by_the_ways_of_the_plan(self):
        net = Net({"pot": 1}, [[(1, 9, [("pot", 1, 0)]), (1, 9, [])], [(1, 9, [("pot", 1, 0)])]], [])
        self.assertEqual(self.crowd(net, ([(0, 5, 0), (0, 5, 0)], [])), [0, 1])
        self.assertIsNone(self.crowd(net, ([(0, 5, 1), (0, 5, 0)], [])))

    def test_a_lesser_crowd_within_a_greater(self):
        # Four pans by four runs, but three of them are too many for the pots.
        uses = [[("pan", 1, 0), ("pot", 2, 0)]] * 3 + [[("pan", 1, 0)]]
        net = Net({"pan": 3, "pot": 5}, [[(1, 9, some)] for some in uses], [])
        self.assertEqual(self.crowd(net, runs((0, 9), (0, 9), (0, 9), (0, 9))), [0, 1, 2])

    def test_times_below_nought(self):
        self.assertEqual(self.crowd(pots(1, 1, 1), runs((-9, -5), (-6, -2))), [0, 1])
        self.assertIsNone(self.crowd(pots(1, 1, 1), runs((-9, -5), (-5, -2))))

    def test_told_is_new(self):
        net, plan = pots(1, 1, 1), runs((0, 5), (4, 6))
        told = crowd(net, plan)
        told.append(7)
        self.assertEqual(crowd(net, plan), [0, 1])


class ByChance(Crowds):
    def test_chance_plans(self):
        chance = random.Random(45)
        sizes = {}
        for _ in range(4000):
            net = chance_net(chance, 7)
            if chance.random() < 0.2:
                net = pots(chance.randint(3, 5), *[chance.choice((1, 1, 2)) for _ in range(chance.randint(4, 7))])
            plan = chance_plan(chance, net, chance.choice((1, 4, 12)))
            if all(run[0] < run[1] for run in plan[0]):
                told = self.crowd(net, plan)
                size = 0 if told is None else len(told)
                sizes[size] = sizes.get(size, 0) + 1
        for size in (0, 2, 3, 4):
            self.assertGreater(sizes[size], 20)


if __name__ == "__main__":
    unittest.main()
