import copy
import itertools
import random
import unittest

from helping import all_chains, chance_case, chance_net, chance_plan, has_ring_above_0, net_shown, total_by_words
from stovework.cases import arcs_of, obeys, start_case
from stovework.nets import Net, points_of
from stovework.plans import length_of, plan_fits
from stovework.stretches import best_stretch, stretch_total


def works(net, case, tool):
    """The works of the tasks, reckoned from the net."""
    told = []
    for ways, pick in zip(net.tasks, case[0]):
        held = ways if pick is None else [ways[pick]]
        told.append(min([way[0] * sum(use[1] for use in way[2] if use[0] == tool) for way in held]))
    return told


def rounded_up(work, many):
    return work // many + (1 if work % many else 0)


def total_otherwise(net, case, tool, fronts, backs):
    """A stretch's total by the words of the promise."""
    many, points = len(net.tasks), points_of(net)
    if tool not in net.tools or len(fronts) != len(backs) or not fronts or [] in fronts + backs:
        return None
    if any(not 0 <= point < points for chain in fronts + backs for point in chain):
        return None
    tasks = [{2 * i: i for i in range(many)}.get(front[-1]) for front in fronts]
    if None in tasks or [back[0] for back in backs] != [2 * i + 1 for i in tasks] or len(set(tasks)) < len(tasks):
        return None
    arcs = arcs_of(net, case)
    heads, tails = ([total_by_words(arcs, chain) for chain in chains] for chains in (fronts, backs))
    if None in heads + tails:
        return None
    work = works(net, case, tool)
    return min(heads) + min(tails) + rounded_up(sum(work[i] for i in tasks), net.tools[tool])


def best_of_all(net, case):
    """The greatest total of all stretches: of all sets of tasks with work, with the greatest chains for each task."""
    arcs = arcs_of(net, case)
    chains = [(chain[0], chain[-1], total_by_words(arcs, chain)) for chain in all_chains(points_of(net), arcs)]
    best = None
    for tool, many in net.tools.items():
        work = works(net, case, tool)
        busy = [i for i in range(len(work)) if work[i] > 0]
        for size in range(1, len(busy) + 1):
            for tasks in itertools.combinations(busy, size):
                heads = [max(total for first, last, total in chains if last == 2 * i) for i in tasks]
                tails = [max(total for first, last, total in chains if first == 2 * i + 1) for i in tasks]
                total = min(heads) + min(tails) + rounded_up(sum(work[i] for i in tasks), many)
                best = total if best is None else max(best, total)
    return best


class Totals(unittest.TestCase):
    # Two tasks use the pot, the third does not; the fourth has a second way; both moments end the net.
    net = Net(
        {"pot": 2, "axe": 1},
        [
            [(3, 9, [("pot", 1, 0)])],
            [(4, 9, [("pot", 1, 0), ("axe", 1, 0)])],
            [(2, 9, [])],
            [(5, 9, [("pot", 2, 0)]), (3, 9, [("pot", 1, 0)])],
        ],
        [(5, 0, 1), (5, 2, 0), (1, 8, 2), (3, 8, 7), (8, 9, 1), (8, 2, -50)],
        None,
        2,
    )
    case = start_case(net)
    fronts = [[4, 5, 0], [4, 5, 2]]
    backs = [[1, 8, 9], [3, 8]]

    def total(self, tool, fronts, backs, case=None):
        case = self.case if case is None else case
        before = copy.deepcopy((net_shown(self.net), case, fronts, backs))
        told = stretch_total(self.net, case, tool, fronts, backs)
        self.assertEqual((net_shown(self.net), case, fronts, backs), before)
        self.assertEqual(told, total_otherwise(self.net, case, tool, fronts, backs))
        return told

    def test_the_least_front_the_least_back_and_the_work(self):
        # Fronts of 3 and 2, backs of 3 and 7, works of 3 and 4 on two pots.
        self.assertEqual(self.total("pot", self.fronts, self.backs), 2 + 3 + 4)
        self.assertEqual(self.total("pot", self.fronts[::-1], self.backs[::-1]), 2 + 3 + 4)

    def test_rounded_up_and_evenly(self):
        self.assertEqual(self.total("pot", [[0]], [[1]]), 2)
        self.assertEqual(self.total("pot", [[2]], [[3]]), 2)
        self.assertEqual(self.total("pot", [[0], [2]], [[1], [3]]), 4)
        self.assertEqual(self.total("pot", [[0], [6]], [[1], [7]]), 3)
        self.assertEqual(self.total("axe", [[2]], [[3]]), 4)

    def test_tasks_without_work(self):
        self.assertEqual(self.total("pot", [[4]], [[5]]), 0)
        self.assertEqual(self.total("pot", [[4]], [[5, 0, 1, 8]]), 1 + 3 + 2)
        self.assertEqual(self.total("axe", [[0], [2]], [[1], [3]]), 4)

    def test_the_work_of_the_case(self):
        self.assertEqual(self.total("pot", [[6]], [[7]]), 2)
        self.assertEqual(self.total("pot", [[6]], [[7]], ([None, None, None, 0], [])), 5)
        self.assertEqual(self.total("pot", [[6]], [[7]], ([None, None, None, 1], [])), 2)

    def test_the_arcs_of_the_case(self):
        ordered = ([None, None, None, 0], [(0, 3)])
        self.assertIsNone(self.total("pot", [[0, 1, 6]], [[7]]))
        self.assertEqual(self.total("pot", [[0, 1, 6]], [[7]], ordered), 3 + 5)
        self.assertEqual(self.total("pot", [[6]], [[7, 6, 7]], ordered), -9 + 5 + 5)

    def test_fronts_and_backs_below_0(self):
        self.assertEqual(self.total("pot", [[0], [8, 2]], [[1], [3]]), -50 + 4)
        self.assertEqual(self.total("pot", [[0], [2]], [[1, 8, 2], [3, 8]]), -48 + 4)
        self.assertEqual(self.total("pot", [[8, 2]], [[3, 8, 2, 3, 8]]), -50 + 7 - 50 + 4 + 7 + 2)

    def test_not_equally_many_or_none(self):
        self.assertIsNone(self.total("pot", [], []))
        self.assertIsNone(self.total("pot", self.fronts, self.backs[:1]))
        self.assertIsNone(self.total("pot", self.fronts[:1], self.backs))
        self.assertIsNone(self.total("pot", self.fronts, []))
        self.assertIsNone(self.total("pot", [], self.backs))

    def test_a_tool_that_is_none_of_the_net(self):
        self.assertIsNone(self.total("oven", self.fronts, self.backs))
        self.assertIsNone(stretch_total(Net({}, [[(1, 1, [])]], []), ([None], []), "pot", [[0]], [[1]]))

    def test_points_that_are_none_of_the_net(self):
        for wrong in (-1, -2, 10, 60, 10**12):
            for fronts, backs in (
                ([[wrong, 0]], [[1]]),
                ([[wrong]], [[1]]),
                ([[0]], [[1, wrong]]),
                ([[0]], [[wrong]]),
                ([[wrong]], [[wrong + 1]]),
                ([[0], [wrong]], [[1], [wrong + 1]]),
            ):
                self.assertIsNone(self.total("pot", fronts, backs))

    def test_fronts_that_end_with_no_begin(self):
        for front, back in (([1], [1]), ([3], [3]), ([5], [5]), ([8], [9]), ([9], [8]), ([8], [1]), ([0, 1], [1])):
            self.assertIsNone(self.total("pot", [front], [back]))
            self.assertIsNone(self.total("pot", [[2], front], [[3], back]))
        self.assertIsNone(self.total("pot", [[]], [[1]]))
        self.assertIsNone(self.total("pot", [[2], []], [[3], [1]]))

    def test_backs_that_begin_with_no_end_of_the_task(self):
        for back in ([3], [0], [2], [5], [8], [8, 9], [0, 1], []):
            self.assertIsNone(self.total("pot", [[0]], [back]))
            self.assertIsNone(self.total("pot", [[2], [0]], [[3], back]))
        self.assertIsNone(self.total("pot", self.fronts, self.backs[::-1]))

    def test_a_task_twice(self):
        self.assertIsNone(self.total("pot", [[0], [0]], [[1], [1]]))
        self.assertIsNone(self.total("pot", [[0], [2], [5, 0]], [[1], [3], [1, 8]]))

    def test_chains_without_a_total(self):
        self.assertIsNone(self.total("pot", [[2, 0]], [[1]]))
        self.assertIsNone(self.total("pot", [[0]], [[1, 9]]))
        self.assertIsNone(self.total("pot", [[0], [6, 2]], [[1], [3]]))
        self.assertIsNone(self.total("pot", [[0], [2]], [[1], [3, 9]]))

    def test_by_chance_by_the_words(self):
        chance = random.Random(37)
        counted, plans = 0, 0
        for _ in range(3000):
            net = chance_net(chance, 3)
            case = chance_case(chance, net)
            chains = all_chains(points_of(net), arcs_of(net, case))
            tasks = [i for i in range(len(net.tasks)) if chance.random() < 0.6]
            if not tasks:
                continue
            fronts = [chance.choice([chain for chain in chains if chain[-1] == 2 * i]) for i in tasks]
            backs = [chance.choice([chain for chain in chains if chain[0] == 2 * i + 1]) for i in tasks]
            if chance.random() < 0.2:
                chance.choice(fronts + backs).append(chance.randint(-1, 9))
            tool = chance.choice(["pot", "axe", "oven"])
            total = total_otherwise(net, case, tool, fronts, backs)
            self.assertEqual(stretch_total(net, case, tool, fronts, backs), total)
            counted += total is not None
            for _ in range(3):
                plan = chance_plan(chance, net)
                if total is not None and plan_fits(net, plan) and obeys(case, plan):
                    self.assertGreaterEqual(length_of(plan), total)
                    plans += 1
        self.assertGreater(counted, 500)
        self.assertGreater(plans, 100)


class Best(unittest.TestCase):
    def best(self, net, case=None):
        """The best stretch, held against the words; its total."""
        case = start_case(net) if case is None else case
        before = copy.deepcopy((net_shown(net), case))
        told = best_stretch(net, case)
        self.assertEqual((net_shown(net), case), before)
        if told is None:
            return None
        self.assertEqual((type(told), len(told)), (tuple, 4))
        total, tool, fronts, backs = told
        self.assertEqual((type(fronts), type(backs)), (list, list))
        self.assertEqual(total_otherwise(net, case, tool, fronts, backs), total)
        work = works(net, case, tool)
        self.assertEqual([front for front in fronts if work[front[-1] // 2] <= 0], [])
        return total

    def test_without_tools_or_tasks(self):
        self.assertIsNone(self.best(Net({}, [], [])))
        self.assertIsNone(self.best(Net({"pot": 1}, [], [], None, 2)))
        self.assertIsNone(self.best(Net({}, [[(5, 5, [])]], [])))

    def test_tasks_without_work(self):
        self.assertIsNone(self.best(Net({"pot": 1}, [[(5, 5, [])]], [])))
        net = Net({"pot": 1}, [[(5, 5, [("pot", 1, 0)]), (2, 2, [])]], [])
        self.assertIsNone(self.best(net))
        self.assertEqual(self.best(net, ([0], [])), 5)
        self.assertIsNone(self.best(net, ([1], [])))

    def test_one_task(self):
        net = Net({"pot": 2}, [[(5, 7, [("pot", 1, 0)])]], [])
        self.assertEqual(best_stretch(net, ([None], [])), (3, "pot", [[0]], [[1]]))
        net = Net({"pot": 2}, [[(5, 7, [("pot", 1, 0)])]], [(2, 0, 4), (1, 3, 6)], None, 2)
        self.assertEqual(best_stretch(net, ([None], [])), (13, "pot", [[2, 0]], [[1, 3]]))

    def test_chains_rather_than_their_lack(self):
        # The chain on to the begin has a total below 0: the begin alone is greater.
        net = Net({"pot": 1}, [[(5, 7, [("pot", 1, 0)])]], [(2, 0, -4), (1, 2, -6)], None, 1)
        self.assertEqual(best_stretch(net, ([None], [])), (5, "pot", [[0]], [[1]]))

    def test_all_or_some_of_the_tasks(self):
        tasks = [[(4, 4, [("pot", 1, 0)])] for _ in range(3)]
        self.assertEqual(self.best(Net({"pot": 1}, tasks, [])), 12)
        self.assertEqual(self.best(Net({"pot": 2}, tasks, [])), 6)
        # Two of them begin late.
        arcs = [(6, 0, 20), (6, 2, 21)]
        net = Net({"pot": 1}, tasks, arcs, None, 1)
        self.assertEqual(self.best(net), 28)
        self.assertEqual(sorted(front[-1] for front in best_stretch(net, start_case(net))[2]), [0, 2])
        # Two of them end long ahead.
        arcs = [(1, 6, 20), (5, 6, 19)]
        net = Net({"pot": 1}, tasks, arcs, None, 1)
        self.assertEqual(self.best(net), 27)
        self.assertEqual(sorted(front[-1] for front in best_stretch(net, start_case(net))[2]), [0, 4])

    def test_a_middle_floor(self):
        tasks = [[(4, 4, [("pot", 1, 0)])] for _ in range(4)]
        arcs = [(8, 0, 3), (8, 2, 3), (8, 4, 9), (1, 9, 5), (3, 9, 5), (7, 9, 50)]
        net = Net({"pot": 1}, tasks, arcs, None, 2)
        self.assertEqual(self.best(net), best_of_all(net, start_case(net)))

    def test_the_best_tool(self):
        tasks = [[(4, 4, [("pot", 1, 0), ("axe", 2, 0)])], [(3, 4, [("oven", 1, 0)])]]
        for axes, total, tool in ((2, 4, "axe"), (4, 3, "oven"), (3, 3, None)):
            net = Net({"pot": 2, "axe": axes, "oven": 1}, tasks, [])
            self.assertEqual(self.best(net), total)
            if tool is not None:
                self.assertEqual(best_stretch(net, start_case(net))[1], tool)

    def test_a_ring_above_0(self):
        tasks = [[(4, 6, [("pot", 1, 0)])], [(4, 6, [("pot", 1, 0)])]]
        for lag, total in ((-6, 8), (-4, 8), (-3, None)):
            self.assertEqual(self.best(Net({"pot": 1}, tasks, [(1, 0, lag)])), total)
        net = Net({"pot": 1}, tasks, [])
        none = [None, None]
        self.assertEqual(self.best(net, (none, [(0, 1)])), 8)
        self.assertIsNone(self.best(net, (none, [(0, 1), (1, 0)])))
        self.assertIsNone(self.best(Net({"pot": 1}, tasks, [(4, 4, 1)], None, 1)))
        self.assertEqual(self.best(Net({"pot": 1}, tasks, [(4, 4, 0)], None, 1)), 8)

    def test_told_is_new(self):
        net = Net({"pot": 1}, [[(4, 4, [("pot", 1, 0)])], [(4, 4, [("pot", 1, 0)])]], [(4, 0, 2)], None, 1)
        case = start_case(net)
        told = best_stretch(net, case)
        before = copy.deepcopy(told)
        for chain in told[2] + told[3]:
            chain.append(7)
        self.assertEqual([chain.count(7) for chain in told[2] + told[3]], [1] * len(told[2] + told[3]))
        told[2].clear()
        self.assertEqual(best_stretch(net, case), before)

    def test_the_greatest_net(self):
        tools = {"abcdefghijkl"[k]: 8 for k in range(12)}
        ways = [(10**9, 10**9, [(tool, 8, 0) for tool in tools])]
        chain = [(2 * i + 1, 2 * i + 2, 10**9) for i in range(23)]
        self.assertEqual(self.best(Net(tools, [ways] * 24, [])), 24 * 10**9)
        self.assertEqual(self.best(Net(tools, [ways] * 24, chain)), 47 * 10**9)

    def test_against_all_stretches(self):
        chance = random.Random(38)
        rings, best, none = 0, 0, 0
        for _ in range(1500):
            net = chance_net(chance)
            # More arcs that wait, so that begins and tails are unlike.
            points = points_of(net)
            arcs = list(net.arcs)
            if points > 0:
                for _ in range(chance.randint(0, 4)):
                    p, q = chance.randrange(points), chance.randrange(points)
                    arcs.append((min(p, q), max(p, q), chance.randint(0, 5) if p != q else 0))
            net = Net(net.tools, net.tasks, arcs, net.apart, net.moments)
            case = chance_case(chance, net)
            told = self.best(net, case)
            if has_ring_above_0(points, arcs_of(net, case)):
                self.assertIsNone(told)
                rings += 1
            else:
                wanted = best_of_all(net, case)
                self.assertEqual(told, wanted)
                best += wanted is not None
                none += wanted is None
        self.assertGreater(rings, 200)
        self.assertGreater(best, 300)
        self.assertGreater(none, 100)

    def test_against_each_single_stretch(self):
        chance = random.Random(39)
        looked = 0
        for _ in range(150):
            net = chance_net(chance, 2)
            case = chance_case(chance, net)
            arcs = arcs_of(net, case)
            chains = all_chains(points_of(net), arcs)
            if has_ring_above_0(points_of(net), arcs):
                continue
            totals = []
            for tool in net.tools:
                work = works(net, case, tool)
                busy = [i for i in range(len(work)) if work[i] > 0]
                pairs = [
                    [(one, other) for one in chains for other in chains if (one[-1], other[0]) == (2 * i, 2 * i + 1)]
                    for i in busy
                ]
                for size in (1, 2):
                    for some in itertools.combinations(pairs, size):
                        for choice in itertools.islice(itertools.product(*some), 300):
                            fronts, backs = [one for one, other in choice], [other for one, other in choice]
                            totals.append(stretch_total(net, case, tool, fronts, backs))
            self.assertNotIn(None, totals)
            told = self.best(net, case)
            self.assertEqual(told is None, totals == [])
            self.assertLessEqual(max(totals, default=0), told or 0)
            looked += len(totals)
        self.assertGreater(looked, 1000)


if __name__ == "__main__":
    unittest.main()
