import copy
import itertools
import random
import unittest
from unittest import mock

from helping import arcs_by_words, cases_met, chance_net, net_shown, tight_net, times_by_words
from stovework.cases import arcs_of, start_case
from stovework.chains import earliest_times
from stovework.meets import crowd
from stovework.nets import Net, points_of
from stovework.papers import inner_rows, lets_by
from stovework.plans import length_of, plan_fits
from stovework.seeker import seek
from stovework.stretches import best_stretch

POT = [("pot", 1, 0)]


def pots(number, *leasts, arcs=(), apart=(), moments=0):
    """So many pots, and tasks that each use one of them for just so many turns."""
    return Net({"pot": number}, [[(least, least, POT)] for least in leasts], list(arcs), list(apart), moments)


def shortest(net):
    """The length of the shortest plan, by all ways and all orders; None where there is no plan."""
    many = len(net.tasks)
    pairs = list(itertools.combinations(range(many), 2))
    best = None
    for ways in itertools.product(*[range(len(ways)) for ways in net.tasks]):
        for turned in itertools.product((0, 1, 2), repeat=len(pairs)):
            # Of each pair the one goes ahead, or the other, or nothing is said.
            orders = [pair if turn == 1 else pair[::-1] for pair, turn in zip(pairs, turned) if turn]
            times = times_by_words(points_of(net), arcs_by_words(net, (list(ways), orders)))
            if times is not None and (best is None or max(times, default=0) < best):
                plan = ([(times[2 * i], times[2 * i + 1], ways[i]) for i in range(many)], times[2 * many :])
                if plan_fits(net, plan):
                    best = length_of(plan)
    return best


def close_net(chance, most_tasks):
    """A net in which some tasks begin nearly together, so that nothing may fit though no ring stands in the start."""
    net = chance_net(chance, most_tasks)
    arcs = []
    if len(net.tasks) > 1:
        for _ in range(chance.randint(1, 3)):
            i, j = chance.sample(range(len(net.tasks)), 2)
            arcs.extend([(2 * i, 2 * j, -chance.randint(0, 4)), (2 * j, 2 * i, -chance.randint(0, 4))])
    return Net(net.tools, net.tasks, arcs, net.apart, net.moments)


def hard_net(chance, many):
    """Just so many tasks that mostly have two ways, few tools, and begins that hang together."""
    tools = {"pot": 1, "axe": chance.randint(1, 2)}
    tasks = []
    for _ in range(many):
        ways = []
        for _ in range(chance.choice((1, 2, 2))):
            names = chance.sample(sorted(tools), chance.choice((1, 1, 2)))
            least = chance.randint(1, 9)
            ways.append((least, least + chance.choice((0, 0, 3)), [(name, 1, chance.choice((0, 0, 5))) for name in names]))
        tasks.append(ways)
    arcs = []
    for _ in range(chance.randint(0, 3)):
        i, j = chance.sample(range(2 * many), 2)
        arcs.append((i, j, chance.randint(-9, 1)))
    return Net(tools, tasks, arcs)


KINDS = (chance_net, tight_net, close_net, hard_net)


class Sought(unittest.TestCase):
    def seek(self, net, parts=None):
        """What comes of seeking, held against all words of points 46 and 47."""
        before = net_shown(net)
        told = seek(net) if parts is None else seek(net, parts)
        parts = 200 if parts is None else parts
        self.assertEqual(net_shown(net), before)
        self.assertIsInstance(told, tuple)
        plan, low, paper = told
        met = cases_met(net, paper)
        self.assertIsNotNone(met)
        self.hold_paper(net, low, paper, met)
        self.hold_plan(net, plan, low)
        self.assertLessEqual(inner_rows(paper), parts)
        if low is not None and (plan is None or length_of(plan) > low):
            self.assertEqual(inner_rows(paper), parts)
        for case, row, _ in met:
            self.hold_case(net, plan, case, row)
        return told

    def hold_paper(self, net, low, paper, met):
        self.assertTrue(lets_by(net, low, paper))
        bounds = [bound for _, row, bound in met if row[0] in ("chain", "full")]
        self.assertEqual(low, min(bounds, default=None))
        self.assertIs(low is None, all(row[0] in ("split", "ways", "ring") for row in paper))
        if low is None:
            return
        self.assertFalse(lets_by(net, low + 1, paper))
        times = earliest_times(points_of(net), arcs_of(net, start_case(net)))[0]
        self.assertGreaterEqual(low, max(times, default=0))
        best = best_stretch(net, start_case(net))
        self.assertGreaterEqual(low, 0 if best is None else best[0])

    def hold_plan(self, net, plan, low):
        if plan is not None:
            self.assertTrue(plan_fits(net, plan))
            self.assertIsNotNone(low)
            self.assertGreaterEqual(length_of(plan), low)

    def hold_case(self, net, plan, case, row):
        times = times_by_words(points_of(net), arcs_by_words(net, case))
        if times is None:
            return
        spans = [(times[2 * i], times[2 * i + 1]) for i in range(len(net.tasks))]
        if row[0] == "split":
            for i, j in itertools.combinations(row[1], 2):
                self.assertTrue(spans[i][0] < spans[j][1] and spans[j][0] < spans[i][1])
        if all(pick is not None or len(ways) == 1 for pick, ways in zip(case[0], net.tasks)):
            runs = [(span[0], span[1], 0 if pick is None else pick) for span, pick in zip(spans, case[0])]
            if crowd(net, (runs, times[2 * len(runs) :])) is None:
                self.assertIsNotNone(plan)
                self.assertLessEqual(length_of(plan), max(times, default=0))


class ByHand(Sought):
    def test_without_points(self):
        for net in (Net({}, [], []), Net({"pot": 3}, [], [])):
            for parts in (None, 0, 1, 400):
                plan, low, paper = self.seek(net, parts)
                self.assertEqual((plan, low, inner_rows(paper)), (([], []), 0, 0))

    def test_moments_alone(self):
        plan, low, paper = self.seek(Net({}, [], [], None, 3))
        self.assertEqual((plan, low), (([], [0, 0, 0]), 0))
        net = Net({}, [], [(0, 1, 5), (2, 1, 3), (1, 2, -3)], None, 3)
        plan, low, paper = self.seek(net, 0)
        self.assertEqual((plan, low), (([], [0, 5, 2]), 5))

    def test_moments_in_a_ring(self):
        for parts in (0, 1, 200):
            plan, low, paper = self.seek(Net({}, [], [(0, 1, 5), (1, 0, -4)], None, 2), parts)
            self.assertEqual((plan, low), (None, None))
            self.assertEqual([row[0] for row in paper], ["ring"])

    def test_one_task(self):
        for parts in (0, 1, 2, None, 400):
            plan, low, paper = self.seek(Net({}, [[(3, 7, [])]], []), parts)
            self.assertEqual((plan, low), (([(0, 3, 0)], []), 3))
        plan, low, paper = self.seek(Net({}, [[(3, 7, [])]], [(0, 1, 5)]))
        self.assertEqual((plan, low), (([(0, 5, 0)], []), 5))
        plan, low, paper = self.seek(Net({}, [[(3, 7, [])]], [(0, 1, 8)]))
        self.assertEqual((plan, low), (None, None))
        plan, low, paper = self.seek(Net({}, [[(3, 7, [])]], [(1, 0, -2)]))
        self.assertEqual((plan, low), (None, None))

    def test_one_task_with_two_ways(self):
        ways = [(4, 5, []), (8, 9, [])]
        for arcs, wanted in (
            ([], ([(0, 4, 0)], [])),
            ([(0, 1, 5)], ([(0, 5, 0)], [])),
            ([(0, 1, 6)], ([(0, 8, 1)], [])),
            ([(0, 1, 9)], ([(0, 9, 1)], [])),
            ([(0, 1, 10)], None),
            ([(0, 1, 6), (1, 0, -7)], None),
        ):
            for task in (ways, ways[::-1]):
                plan, low, paper = self.seek(Net({}, [task], arcs))
                if wanted is None:
                    self.assertEqual((plan, low), (None, None))
                else:
                    self.assertEqual(plan[0][0][:2], wanted[0][0][:2])
                    self.assertEqual(low, wanted[0][0][1])

    def test_a_ring_of_the_net_s_arcs(self):
        net = pots(1, 2, 3, arcs=[(1, 2, 0), (3, 0, 0)])
        for parts in (0, 1, 2, None):
            plan, low, paper = self.seek(net, parts)
            self.assertEqual((plan, low), (None, None))
            self.assertEqual(len(paper), 1)
        self.assertEqual(self.seek(Net({}, [[(1, 1, [])]], [(0, 0, 1)]))[:2], (None, None))
        self.assertEqual(self.seek(Net({}, [[(1, 1, [])]], [(0, 0, 0)]))[1], 1)

    def test_one_pot_behind_another(self):
        plan, low, paper = self.seek(pots(1, 2, 3, 4))
        self.assertEqual((length_of(plan), low), (9, 9))
        plan, low, paper = self.seek(pots(2, 2, 3, 4))
        self.assertEqual((length_of(plan), low), (5, 5))
        plan, low, paper = self.seek(pots(3, 2, 3, 4))
        self.assertEqual((length_of(plan), low), (4, 4))

    def test_only_an_order_gives_a_plan(self):
        # The second task begins at most three turns behind the first: it can't wait for its end.
        arcs = [(2, 0, -3)]
        wanted = (([(3, 8, 0), (0, 3, 0)], []), 8)
        self.assertEqual(self.seek(pots(1, 5, 3, arcs=arcs))[:2], wanted)
        for apart in ([(0, 1)], [(1, 0)]):
            free = [[(5, 5, [])], [(3, 3, [])]]
            self.assertEqual(self.seek(Net({}, free, arcs, apart))[:2], wanted)
        self.assertEqual(self.seek(Net({}, free, arcs))[:2], (([(0, 5, 0), (0, 3, 0)], []), 5))

    def test_unlike_heats(self):
        tasks = [[(4, 4, [("oven", 1, heat)])] for heat in (180, 200, 180)]
        plan, low, paper = self.seek(Net({"oven": 2}, tasks, []))
        self.assertEqual((length_of(plan), low), (8, 8))

    def test_only_a_pick_gives_a_plan(self):
        # Both begin at once, and there is one pot.
        both = [(0, 2, 0), (2, 0, 0)]
        for turned in (False, True):
            ways = [(3, 3, POT), (9, 9, [])]
            net = Net({"pot": 1}, [[(5, 5, POT)], ways[::-1] if turned else ways], both)
            plan, low, paper = self.seek(net)
            self.assertEqual((plan, low), (([(0, 5, 0), (0, 9, 0 if turned else 1)], []), 9))

    def test_the_longer_way_is_the_shorter_plan(self):
        net = Net({"pot": 1}, [[(5, 5, POT)], [(4, 4, POT), (6, 6, [])]], [])
        plan, low, paper = self.seek(net)
        self.assertEqual((length_of(plan), low), (6, 6))

    def test_no_plan_though_no_ring_stands_in_the_start_case(self):
        both = [(0, 2, 0), (2, 0, 0)]
        net = pots(1, 5, 3, arcs=both)
        plan, low, paper = self.seek(net, 0)
        # One pot for eight turns is what the start case shows by itself.
        self.assertEqual((plan, low, inner_rows(paper)), (None, 8, 0))
        for parts in (1, 2, None, 400):
            plan, low, paper = self.seek(net, parts)
            self.assertEqual((plan, low, inner_rows(paper)), (None, None, 1))

    def test_no_plan_by_any_way(self):
        both = [(0, 2, 0), (2, 0, 0)]
        uses = [[(5, 5, POT), (7, 7, [("axe", 1, 0)])], [(3, 3, POT + [("axe", 1, 0)])]]
        net = Net({"pot": 1, "axe": 1}, uses, both)
        plan, low, paper = self.seek(net, 400)
        self.assertEqual((plan, low), (None, None))
        self.assertGreater(inner_rows(paper), 1)

    def test_few_parts(self):
        # Twenty turns of work for three pots are seven turns, but no plan is shorter than eight.
        net = pots(3, 4, 4, 4, 4, 4)
        for parts in (0, 1, 2, 7):
            plan, low, paper = self.seek(net, parts)
            self.assertGreaterEqual(low, 7)
            self.assertLessEqual(low, 8)
        plan, low, paper = self.seek(net, 400)
        self.assertEqual(length_of(plan), 8)

    def test_parts_left_out_are_two_hundred(self):
        net = pots(3, 5, 5, 5, 4, 4, 7, 7, 3, arcs=[(1, 4, 0), (5, 0, -30)])
        self.assertEqual(seek(net), seek(net, 200))

    def test_great_numbers(self):
        great = 10**9
        net = Net({"pot": 1}, [[(great, great, POT)], [(great, great, POT)]], [(0, 2, -great), (2, 4, great)], None, 1)
        plan, low, paper = self.seek(net)
        self.assertEqual((length_of(plan), low), (2 * great, 2 * great))

    def test_twenty_four_tasks(self):
        for number, parts, low in ((8, 3, 38), (1, 20, 300)):
            told = self.seek(pots(number, *range(1, 25), moments=8), parts)
            self.assertIsNotNone(told[0])
            self.assertGreaterEqual(told[1], low)

    def test_told_is_new(self):
        net = pots(1, 2, 3, 4, arcs=[(1, 4, 0)], moments=1)
        told = seek(net, 20)
        wanted = copy.deepcopy(told)
        lists = [told[0][0], told[0][1], told[2]]
        for row in told[2]:
            lists.extend(part for part in row[1:] if isinstance(part, list))
            if row[0] == "full":
                lists.extend(row[2] + row[3])
        # No two of them are one and the same list.
        self.assertEqual(len({id(some) for some in lists}), len(lists))
        for some in lists:
            some.append(77)
        self.assertEqual(seek(net, 20), wanted)


class ByChance(Sought):
    def test_chance_nets(self):
        chance = random.Random(46)
        plans, none, open_ones, nothing = 0, 0, 0, 0
        for _ in range(400):
            net = chance.choice(KINDS)(chance, chance.choice((3, 5, 7)))
            parts = chance.choice((0, 1, 2, 5, None, 188, 400))
            plan, low, paper = self.seek(net, parts)
            none += low is None and inner_rows(paper) > 0
            plans += plan is not None and length_of(plan) == low and inner_rows(paper) > 0
            open_ones += plan is not None and length_of(plan) > low
            nothing += plan is None and low is not None
        self.assertGreater(plans, 30)
        self.assertGreater(none, 10)
        self.assertGreater(open_ones + nothing, 10)

    def test_hard_chance_nets(self):
        chance = random.Random(56)
        heads = {}
        for _ in range(24):
            net = hard_net(chance, chance.randint(6, 10))
            plan, low, paper = self.seek(net, chance.choice((15, 60, 150)))
            kind = "none" if low is None else "from" if plan is None else "just" if length_of(plan) == low else "between"
            heads[kind] = heads.get(kind, 0) + 1
        self.assertGreater(heads["just"], 3)
        self.assertGreater(heads["between"], 3)

    def test_without_probes(self):
        # All that is promised hangs on the paper's own cases: probes may find shorter plans, no more.
        chance = random.Random(57)
        with mock.patch("stovework.seeker.send_probe", lambda find, look: None):
            for _ in range(150):
                net = chance.choice(KINDS)(chance, chance.choice((3, 5, 7)))
                self.seek(net, chance.choice((0, 1, 3, 20, 188)))
            for _ in range(60):
                net = hard_net(chance, 3)
                self.assertEqual(self.seek(net, 188)[1], shortest(net))

    def test_greater_chance_nets(self):
        chance = random.Random(47)
        for _ in range(12):
            net = chance_net(chance, 24)
            self.seek(net, chance.choice((0, 3, 40)))

    def test_more_parts_never_tell_less(self):
        chance = random.Random(48)
        for _ in range(40):
            net = tight_net(chance, 6)
            lows = [seek(net, parts)[1] for parts in (0, 1, 2, 4, 8, 40)]
            numbers = [low for low in lows if low is not None]
            self.assertEqual(numbers, sorted(numbers))
            self.assertEqual(lows, numbers + [None] * (len(lows) - len(numbers)))

    def test_at_most_three_tasks(self):
        chance = random.Random(49)
        none, deep = 0, 0
        for k in range(400):
            net = chance.choice(KINDS)(chance, 3)
            parts = (188, 189, None, 400)[k % 4]
            plan, low, paper = self.seek(net, parts)
            self.assertLessEqual(inner_rows(paper), 187)
            wanted = shortest(net)
            self.assertEqual(low, wanted)
            self.assertEqual(None if plan is None else length_of(plan), wanted)
            none += wanted is None and inner_rows(paper) > 0
            deep += inner_rows(paper) > 1
        self.assertGreater(none, 10)
        self.assertGreater(deep, 20)

    def test_four_tasks_by_all_orders(self):
        chance = random.Random(50)
        for _ in range(12):
            net = tight_net(chance, 4)
            plan, low, paper = self.seek(net, 400)
            wanted = shortest(net)
            if plan is not None and length_of(plan) == low:
                self.assertEqual(low, wanted)
            if low is None:
                self.assertIsNone(wanted)
            elif wanted is not None:
                self.assertLessEqual(low, wanted)

    def test_asked_twice(self):
        chance = random.Random(51)
        for _ in range(60):
            net = chance.choice((tight_net, hard_net))(chance, 6)
            parts = chance.choice((0, 1, 7, 200))
            told = seek(net, parts)
            self.assertEqual(told, seek(net, parts))
            # A dict is the same in whatever order its keys were told.
            tools = {tool: net.tools[tool] for tool in sorted(net.tools, reverse=True)}
            self.assertEqual(told, seek(Net(tools, net.tasks, net.arcs, net.apart, net.moments), parts))


if __name__ == "__main__":
    unittest.main()
