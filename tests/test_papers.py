import copy
import itertools
import random
import unittest

from helping import all_chains, chance_case, chance_net, net_shown, tight_net
from stovework.cases import arcs_of, start_case
from stovework.chains import chain_total, earliest_times, ring_total
from stovework.clashes import clashes
from stovework.nets import Net, points_of
from stovework.papers import bound_of, inner_rows, lets_by, parted, shuts
from stovework.plans import length_of, plan_fits
from stovework.stretches import best_stretch, stretch_total

POT = [("pot", 1, 0)]


def pots(many, *leasts, arcs=(), moments=0):
    """So many pots, and tasks that each use one of them for so many turns or one more."""
    return Net({"pot": many}, [[(least, least + 1, POT)] for least in leasts], list(arcs), None, moments)


def two_ways():
    """One pot; a task with one way, and one whose second way is longer but needs no pot."""
    return Net({"pot": 1}, [[(3, 3, POT)], [(2, 2, POT), (4, 4, [])]], [])


class Unchanged(unittest.TestCase):
    """Asks, and holds what was handed in against what it was before."""

    def ask(self, function, net, *handed):
        before = copy.deepcopy((net_shown(net), handed))
        told = function(net, *handed)
        self.assertEqual((net_shown(net), handed), before)
        return told


class Split(Unchanged):
    def test_two_tasks(self):
        net = pots(1, 2, 3)
        none = [None, None]
        case = (none, [])
        self.assertEqual(self.ask(parted, net, case, ("split", [0, 1])), [(none, [(0, 1)]), (none, [(1, 0)])])
        self.assertEqual(self.ask(parted, net, case, ("split", [1, 0])), [(none, [(1, 0)]), (none, [(0, 1)])])

    def test_three_tasks(self):
        net = pots(2, 2, 3, 4, 5)
        picks = [None, 0, None, 0]
        told = self.ask(parted, net, (picks, [(3, 2)]), ("split", [2, 0, 1]))
        pairs = [(2, 0), (2, 1), (0, 2), (0, 1), (1, 2), (1, 0)]
        self.assertEqual(told, [(picks, [(3, 2), pair]) for pair in pairs])

    def test_tasks_that_do_not_clash(self):
        net = pots(2, 2, 3, 4)
        case = start_case(net)
        for tasks in ([], [0], [0, 1], [1, 2], [0, 0, 1], [0, 1, 3], [0, 1, -1], [-1, -2, -3]):
            self.assertIsNone(self.ask(parted, net, case, ("split", tasks)))
        self.assertEqual(len(parted(net, case, ("split", [0, 1, 2]))), 6)

    def test_an_order_between_two_of_them_in_either_way(self):
        net = pots(2, 2, 3, 4, 5)
        none = [None] * 4
        for pair in itertools.permutations([0, 1, 2], 2):
            for orders in ([pair], [(3, 0), pair], [pair, (1, 3)]):
                self.assertIsNone(self.ask(parted, net, (none, orders), ("split", [0, 1, 2])))
        for pair in ((0, 3), (3, 0), (3, 2)):
            told = parted(net, (none, [pair]), ("split", [0, 1, 2]))
            self.assertEqual(told[0], (none, [pair, (0, 1)]))
        self.assertIsNone(parted(net, (none, [(1, 3)]), ("split", [0, 1, 2, 3])))

    def test_the_clash_is_that_of_the_case(self):
        net = Net({"pot": 1}, [[(1, 1, POT)], [(1, 1, POT), (1, 1, [])]], [])
        self.assertIsNone(parted(net, ([None, None], []), ("split", [0, 1])))
        self.assertIsNone(parted(net, ([None, 1], []), ("split", [0, 1])))
        told = parted(net, ([None, 0], []), ("split", [0, 1]))
        self.assertEqual(told, [([None, 0], [(0, 1)]), ([None, 0], [(1, 0)])])

    def test_told_is_new(self):
        net = pots(2, 2, 3, 4, 5)
        case = ([None] * 4, [(3, 0)])
        told = parted(net, case, ("split", [0, 1, 2]))
        wanted = copy.deepcopy(told)
        for picks, orders in told:
            picks[0] = 7
            orders.append((0, 3))
        self.assertEqual(case, ([None] * 4, [(3, 0)]))
        for picks, orders in told:
            self.assertEqual((picks.count(7), len(orders)), (1, 3))
        self.assertEqual(parted(net, case, ("split", [0, 1, 2])), wanted)


class Ways(Unchanged):
    def test_a_task_with_two_ways(self):
        net = two_ways()
        told = self.ask(parted, net, ([None, None], [(0, 1)]), ("ways", 1))
        self.assertEqual(told, [([None, 0], [(0, 1)]), ([None, 1], [(0, 1)])])
        told = self.ask(parted, net, ([0, None], []), ("ways", 1))
        self.assertEqual(told, [([0, 0], []), ([0, 1], [])])

    def test_a_task_with_one_way(self):
        self.assertIsNone(self.ask(parted, two_ways(), ([None, None], []), ("ways", 0)))
        self.assertIsNone(self.ask(parted, two_ways(), ([0, None], []), ("ways", 0)))

    def test_picked_already(self):
        for way in (0, 1):
            self.assertIsNone(self.ask(parted, two_ways(), ([None, way], []), ("ways", 1)))

    def test_numbers_that_are_no_tasks(self):
        for i in (-1, -2, 2, 3, 10**59, -(10**59)):
            self.assertIsNone(self.ask(parted, two_ways(), ([None, None], []), ("ways", i)))
        self.assertIsNone(self.ask(parted, Net({}, [], []), ([], []), ("ways", 0)))

    def test_told_is_new(self):
        net = two_ways()
        case = ([None, None], [(0, 1)])
        told = parted(net, case, ("ways", 1))
        for picks, orders in told:
            picks.append(5)
            orders.clear()
        self.assertEqual(case, ([None, None], [(0, 1)]))
        self.assertEqual([picks for picks, orders in told], [[None, 0, 5], [None, 1, 5]])
        self.assertEqual(parted(net, case, ("ways", 1)), [([None, 0], [(0, 1)]), ([None, 1], [(0, 1)])])


class Bounds(Unchanged):
    net = pots(1, 2, 3, arcs=[(1, 4, 5), (3, 4, 0)], moments=1)
    case = ([None, None], [])

    def bound(self, row, case=None):
        return self.ask(bound_of, self.net, self.case if case is None else case, row)

    def test_chains(self):
        self.assertEqual(self.bound(("chain", [])), 0)
        self.assertEqual(self.bound(("chain", [4])), 0)
        self.assertEqual(self.bound(("chain", [0, 1, 4])), 7)
        self.assertEqual(self.bound(("chain", [0, 1, 0, 1, 4])), 7 - 3 + 2)
        self.assertEqual(self.bound(("chain", [1, 0])), -3)

    def test_chains_with_a_gap(self):
        self.assertIsNone(self.bound(("chain", [0, 4])))
        self.assertIsNone(self.bound(("chain", [0, 1, 2, 3])))

    def test_chains_by_the_arcs_of_the_case(self):
        self.assertEqual(self.bound(("chain", [0, 1, 2, 3]), ([None, None], [(0, 1)])), 5)
        net = two_ways()
        self.assertEqual([bound_of(net, ([None, pick], []), ("chain", [2, 3])) for pick in (None, 0, 1)], [2, 2, 4])

    def test_chains_with_points_that_are_none_of_the_net(self):
        for point in (-1, 5, 60, 10**59):
            self.assertIsNone(self.bound(("chain", [point])))
            self.assertIsNone(self.bound(("chain", [0, point])))
            self.assertIsNone(self.bound(("chain", [point, 0, 1])))

    def test_full_rows(self):
        self.assertEqual(self.bound(("full", "pot", [[0]], [[1, 4]])), 7)
        self.assertEqual(self.bound(("full", "pot", [[0], [2]], [[1], [3]])), 5)
        self.assertIsNone(self.bound(("full", "axe", [[0]], [[1]])))
        self.assertIsNone(self.bound(("full", "pot", [], [])))
        self.assertIsNone(self.bound(("full", "pot", [[0]], [[3]])))
        self.assertIsNone(self.bound(("full", "pot", [[5, 0]], [[1]])))
        self.assertIsNone(self.bound(("full", "pot", [[0, 1, 2]], [[3]])))
        self.assertEqual(self.bound(("full", "pot", [[0, 1, 2]], [[3]]), ([None, None], [(0, 1)])), 5)


class Shuts(Unchanged):
    net = pots(1, 2, 3, arcs=[(1, 4, 5), (3, 4, 0), (4, 2, -50)], moments=1)
    case = ([None, None], [])

    def shut(self, low, row, case=None):
        told = self.ask(shuts, self.net, self.case if case is None else case, low, row)
        self.assertIsInstance(told, bool)
        return told

    def test_low_just_at_the_total_and_one_above(self):
        for row, total in (
            (("chain", []), 0),
            (("chain", [4]), 0),
            (("chain", [0, 1, 4]), 7),
            (("chain", [4, 2]), -50),
            (("full", "pot", [[0]], [[1, 4]]), 7),
            (("full", "pot", [[0], [2]], [[1], [3]]), 5),
            (("full", "pot", [[4, 2]], [[3]]), -47),
        ):
            self.assertTrue(self.shut(total, row))
            self.assertTrue(self.shut(total - 1, row))
            self.assertTrue(self.shut(-(10**59), row))
            self.assertFalse(self.shut(total + 1, row))
            self.assertFalse(self.shut(10**59, row))
            self.assertFalse(self.shut(None, row))

    def test_rows_without_a_bound(self):
        for row in (
            ("chain", [0, 4]),
            ("chain", [5]),
            ("chain", [-1]),
            ("full", "axe", [[0]], [[1]]),
            ("full", "pot", [], []),
            ("full", "pot", [[0], [0]], [[1], [1]]),
        ):
            for low in (-(10**59), 0, None):
                self.assertFalse(self.shut(low, row))

    def test_rings(self):
        both = ([None, None], [(0, 1), (1, 0)])
        for low in (None, 0, 10**59, -(10**59)):
            self.assertTrue(self.shut(low, ("ring", [0, 1, 2, 3]), both))
            self.assertTrue(self.shut(low, ("ring", [3, 0, 1, 2]), both))
            self.assertFalse(self.shut(low, ("ring", [3, 2, 1, 0]), both))
            self.assertFalse(self.shut(low, ("ring", [0, 1, 2, 3])))
            self.assertFalse(self.shut(low, ("ring", [0, 1]), both))
            self.assertFalse(self.shut(low, ("ring", []), both))
            self.assertFalse(self.shut(low, ("ring", [0]), both))
            for point in (-1, 5, 60):
                self.assertFalse(self.shut(low, ("ring", [point]), both))
                self.assertFalse(self.shut(low, ("ring", [0, 1, 2, 3, point]), both))

    def test_rings_of_just_0_and_of_just_1(self):
        for lag, wanted in ((-3, False), (-2, False), (-1, True)):
            net = pots(1, 2, arcs=[(1, 0, lag)])
            for low in (None, 0, 99):
                self.assertIs(shuts(net, ([None], []), low, ("ring", [0, 1])), wanted)
                self.assertIs(shuts(net, ([None], []), low, ("ring", [1, 0])), wanted)
        for lag in (0, 1):
            net = pots(1, 2, arcs=[(1, 1, lag)])
            self.assertIs(shuts(net, ([None], []), None, ("ring", [1])), lag == 1)

    def test_split_and_ways_rows_never_shut(self):
        for low in (None, 0, -(10**59), 10**59):
            for row in (("split", [0, 1]), ("split", []), ("split", [0]), ("ways", 0), ("ways", 7)):
                self.assertFalse(self.shut(low, row))
            self.assertIs(shuts(two_ways(), ([None, None], []), low, ("ways", 1)), False)


class LetsBy(Unchanged):
    def lets(self, net, low, paper):
        told = self.ask(lets_by, net, low, paper)
        self.assertIsInstance(told, bool)
        return told

    def test_the_paper_without_rows(self):
        for net in (Net({}, [], []), pots(1, 2)):
            for low in (None, 0, -5, 5):
                self.assertFalse(self.lets(net, low, []))

    def test_a_net_without_points(self):
        net = Net({}, [], [])
        for low, wanted in ((-1, True), (0, True), (1, False), (None, False)):
            self.assertIs(self.lets(net, low, [("chain", [])]), wanted)

    def test_one_row(self):
        net = pots(1, 2, 3)
        for low, wanted in ((4, True), (5, True), (6, False), (None, False)):
            self.assertIs(self.lets(net, low, [("full", "pot", [[0], [2]], [[1], [3]])]), wanted)

    def test_a_row_too_many(self):
        net = pots(1, 2, 3)
        row = ("chain", [0, 1])
        self.assertTrue(self.lets(net, 2, [row]))
        self.assertFalse(self.lets(net, 2, [row, row]))
        self.assertFalse(self.lets(net, 2, [row, ("split", [0, 1])]))
        self.assertFalse(self.lets(net, 2, [("split", [0, 1]), row, row, row]))

    def test_a_case_left_over(self):
        net = pots(1, 2, 3)
        row = ("chain", [0, 1])
        self.assertFalse(self.lets(net, 2, [("split", [0, 1])]))
        self.assertFalse(self.lets(net, 2, [("split", [0, 1]), row]))
        self.assertTrue(self.lets(net, 2, [("split", [0, 1]), row, row]))

    def test_the_order_of_the_pile_matters(self):
        net = pots(1, 2, 3)
        first, second = ("chain", [0, 1, 2, 3]), ("chain", [2, 3, 0, 1])
        self.assertTrue(self.lets(net, 5, [("split", [0, 1]), first, second]))
        self.assertFalse(self.lets(net, 5, [("split", [0, 1]), second, first]))
        self.assertTrue(self.lets(net, 5, [("split", [1, 0]), second, first]))
        self.assertFalse(self.lets(net, 5, [("split", [1, 0]), first, second]))
        self.assertFalse(self.lets(net, 6, [("split", [0, 1]), first, second]))

    def test_the_ways_part_the_case(self):
        net = two_ways()
        ways = [("ways", 1), ("full", "pot", [[0], [2]], [[1], [3]]), ("chain", [2, 3])]
        self.assertTrue(self.lets(net, 4, ways))
        self.assertFalse(self.lets(net, 5, ways))
        self.assertFalse(self.lets(net, 4, [ways[0], ways[2], ways[1]]))
        split = [("ways", 1), ("split", [0, 1]), ("chain", [0, 1, 2, 3]), ("chain", [2, 3, 0, 1]), ("chain", [2, 3])]
        self.assertTrue(self.lets(net, 4, split))
        self.assertFalse(self.lets(net, 4, [split[0], split[4]] + split[1:4]))

    def test_what_was_laid_last_is_taken_first(self):
        net = pots(1, 2, 3, 4)
        low = 9
        paper = [("split", [0, 1])]
        # Behind 0, 1 and behind 1, 0 the third task has its three places, each of them told by two splits.
        for one, other in ((0, 1), (1, 0)):
            orders = [one, other, 2]
            whole = ("chain", [2 * one, 2 * one + 1, 2 * other, 2 * other + 1, 4, 5])
            amid = ("chain", [2 * one, 2 * one + 1, 4, 5, 2 * other, 2 * other + 1])
            ahead = ("chain", [4, 5, 2 * one, 2 * one + 1, 2 * other, 2 * other + 1])
            paper.extend([("split", [orders[1], 2]), whole, ("split", [orders[0], 2]), amid, ahead])
        self.assertTrue(self.lets(net, low, paper))
        self.assertFalse(self.lets(net, low + 1, paper))
        for k in range(len(paper) - 1):
            if paper[k] != paper[k + 1]:
                turned = paper[:k] + [paper[k + 1], paper[k]] + paper[k + 2 :]
                self.assertFalse(self.lets(net, low, turned), k)
        for k in range(len(paper)):
            self.assertFalse(self.lets(net, low, paper[:k] + paper[k + 1 :]))

    def test_rows_that_are_not_right(self):
        net = pots(2, 2, 3, 4)
        shut = ("chain", [])
        for row, many in ((("split", [0, 1]), 2), (("split", [0, 0, 1]), 6), (("ways", 0), 2), (("ways", -1), 2)):
            for rows in (0, 1, 2, many):
                self.assertFalse(self.lets(net, -9, [row] + [shut] * rows))
        self.assertTrue(self.lets(net, -9, [("split", [0, 1, 2])] + [shut] * 6))
        again = [("split", [0, 1, 2]), ("split", [0, 1, 2])]
        self.assertFalse(self.lets(net, -9, again + [shut] * 11))

    def test_rows_that_do_not_shut(self):
        net = pots(1, 2, 3)
        for row in (("chain", [0, 2]), ("chain", [9]), ("ring", [0, 1]), ("full", "axe", [[0]], [[1]])):
            self.assertFalse(self.lets(net, -9, [row]))
            self.assertFalse(self.lets(net, -9, [("split", [0, 1]), ("chain", []), row]))
            self.assertFalse(self.lets(net, -9, [("split", [0, 1]), row, ("chain", [])]))

    def test_no_plan_at_all(self):
        net = Net({"pot": 1}, [[(2, 2, POT)], [(3, 3, POT)]], [(1, 2, -1), (2, 1, 0)])
        paper = [("split", [0, 1]), ("ring", [1, 2]), ("ring", [0, 1, 2, 3])]
        self.assertFalse(self.lets(net, None, paper))
        net = Net({"pot": 1}, [[(2, 2, POT)], [(3, 3, POT)]], [(0, 2, 1), (2, 1, 1)])
        paper = [("split", [0, 1]), ("ring", [1, 2]), ("ring", [0, 2, 3])]
        for low in (None, 0, 10**59):
            self.assertTrue(self.lets(net, low, paper))
        self.assertFalse(self.lets(net, None, [paper[0], paper[2], paper[1]]))
        self.assertFalse(self.lets(net, None, [paper[0], paper[1], ("chain", [])]))
        self.assertTrue(self.lets(net, 0, [paper[0], paper[1], ("chain", [])]))

    def test_the_same_paper_is_judged_alike(self):
        net = pots(1, 2, 3)
        paper = [("split", [0, 1]), ("chain", [0, 1, 2, 3]), ("chain", [2, 3, 0, 1])]
        for _ in range(3):
            self.assertTrue(lets_by(net, 5, paper))


class InnerRows(unittest.TestCase):
    def test_counted(self):
        self.assertEqual(inner_rows([]), 0)
        self.assertEqual(inner_rows([("chain", []), ("ring", [1]), ("full", "pot", [], [])]), 0)
        self.assertEqual(inner_rows([("split", [])]), 1)
        self.assertEqual(inner_rows([("ways", -4)]), 1)
        paper = [("split", [0, 1]), ("ways", 1), ("chain", []), ("split", [0, 1]), ("ring", []), ("full", "a", [], [])]
        self.assertEqual(inner_rows(paper), 3)
        self.assertEqual(len(paper), 6)


def judged(net, low, case, rows):
    """What is left of the rows behind those that end this case; None where they don't. By the words, case in case."""
    if not rows:
        return None
    row = rows[0]
    if row[0] in ("split", "ways"):
        if row[0] == "split":
            some = row[1]
            if not clashes(net, case, some) or any(set(pair) <= set(some) for pair in case[1]):
                return None
            cases = [(case[0], case[1] + [pair]) for pair in itertools.permutations(some, 2)]
        else:
            i = row[1]
            if i not in range(len(net.tasks)) or len(net.tasks[i]) < 2 or case[0][i] is not None:
                return None
            cases = [(case[0][:i] + [way] + case[0][i + 1 :], case[1]) for way in (0, 1)]
        rows = rows[1:]
        for each in cases:
            rows = judged(net, low, each, rows)
            if rows is None:
                return None
        return rows
    arcs = arcs_of(net, case)
    if row[0] == "full":
        total = stretch_total(net, case, *row[1:])
        shut = low is not None and total is not None and total >= low
    else:
        total = (ring_total if row[0] == "ring" else chain_total)(arcs, row[1])
        inside = set(row[1]) <= set(range(points_of(net)))
        if row[0] == "ring":
            shut = inside and total is not None and total > 0
        else:
            shut = inside and low is not None and total is not None and total >= low
    return rows[1:] if shut else None


def chance_shut(chance, net, case):
    """A row that mostly shuts the case, and the least that it shows (None for a ring)."""
    points, arcs = points_of(net), arcs_of(net, case)
    times, chains, ring = earliest_times(points, arcs)
    if ring is not None:
        return ("ring", ring), None
    best = best_stretch(net, case)
    if best is not None and chance.random() < 0.5:
        return ("full", best[1], best[2], best[3]), best[0]
    if points == 0:
        return ("chain", []), 0
    last = max(range(points), key=lambda point: times[point])
    return ("chain", chains[last]), times[last]


def chance_paper(chance, net, case, depth):
    """Rows that end this case, and the least number that they show (None where rings alone shut)."""
    rows, lows = [], []
    inner = [("ways", i) for i in range(len(net.tasks)) if parted(net, case, ("ways", i)) is not None]
    for size in (2, 3):
        for some in itertools.permutations(range(len(net.tasks)), size):
            if parted(net, case, ("split", list(some))) is not None:
                inner.append(("split", list(some)))
    if depth == 0 or not inner or chance.random() < 0.2:
        row, low = chance_shut(chance, net, case)
        return [row], low
    row = chance.choice(inner)
    for each in parted(net, case, row):
        some, low = chance_paper(chance, net, each, depth - 1)
        rows.extend(some)
        lows.append(low)
    return [row] + rows, min([low for low in lows if low is not None], default=None)


def marred(chance, paper):
    """The paper with one thing changed."""
    paper = copy.deepcopy(paper)
    k = chance.randrange(len(paper))
    kind = chance.randrange(4)
    if kind == 0:
        paper.pop(k)
    elif kind == 1:
        paper.insert(k, chance.choice(paper))
    elif kind == 2:
        other = chance.randrange(len(paper))
        paper[k], paper[other] = paper[other], paper[k]
    else:
        paper[k] = chance.choice((("chain", [0]), ("ring", [0, 1]), ("split", [0, 1]), ("ways", 0), ("chain", [-1])))
    return paper


def shortest(net, latest):
    """The length of the shortest plan that fits, of those without moments that begin by this turn; None if none does."""
    runs = []
    for ways in net.tasks:
        spans = [(b, b + e, k) for k, way in enumerate(ways) for e in range(way[0], way[1] + 1) for b in range(latest)]
        runs.append(spans)
    lengths = [length_of((list(plan), [])) for plan in itertools.product(*runs) if plan_fits(net, (list(plan), []))]
    return min(lengths, default=None)


class ByChance(unittest.TestCase):
    def test_papers_by_the_words(self):
        chance = random.Random(43)
        yes, no, none = 0, 0, 0
        for _ in range(600):
            net = tight_net(chance, 3, True)
            paper, low = chance_paper(chance, net, start_case(net), 3)
            lows = (None, -1, 0) if low is None else (None, low, low + 1, low - 1)
            self.assertIs(lets_by(net, low, paper), True)
            none += low is None and inner_rows(paper) > 0
            for some in (paper, marred(chance, paper), marred(chance, paper)):
                for each in lows:
                    wanted = judged(net, each, start_case(net), some) == []
                    self.assertIs(lets_by(net, each, some), wanted)
                    if inner_rows(some) > 1:
                        yes += wanted
                        no += not wanted
        self.assertGreater(yes, 200)
        self.assertGreater(no, 200)
        self.assertGreater(none, 10)

    def test_no_plan_is_shorter(self):
        chance = random.Random(44)
        just, none = 0, 0
        for _ in range(150):
            net = tight_net(chance, 2, False)
            paper, low = chance_paper(chance, net, start_case(net), 4)
            self.assertIs(lets_by(net, low, paper), True)
            length = shortest(net, 8)
            if length is not None:
                self.assertIsNotNone(low)
                self.assertGreaterEqual(length, low)
            just += length == low and inner_rows(paper) > 0
            none += length is None
        self.assertGreater(just, 20)
        self.assertGreater(none, 10)

    def test_parted_by_the_words(self):
        chance = random.Random(41)
        right = 0
        for _ in range(2500):
            net = chance_net(chance)
            case = chance_case(chance, net)
            many = len(net.tasks) + (1 if chance.random() < 0.1 else 0)
            some = chance.sample(range(many), chance.randint(0, many))
            held = clashes(net, case, some) and not any(set(pair) <= set(some) for pair in case[1])
            cases = [(case[0], case[1] + [pair]) for pair in itertools.permutations(some, 2)]
            self.assertEqual(parted(net, case, ("split", some)), cases if held else None)
            right += held
        self.assertGreater(right, 200)

    def test_bounds_by_the_words(self):
        chance = random.Random(42)
        for _ in range(600):
            net = chance_net(chance, 2)
            case = chance_case(chance, net)
            arcs = arcs_of(net, case)
            for chain in all_chains(points_of(net), arcs)[:20]:
                total = chain_total(arcs, chain)
                self.assertEqual(bound_of(net, case, ("chain", chain)), total)
                ring = ring_total(arcs, chain)
                self.assertIs(shuts(net, case, None, ("ring", chain)), ring is not None and ring > 0)


if __name__ == "__main__":
    unittest.main()
