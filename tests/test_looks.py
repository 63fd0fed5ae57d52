"""Holds the looks of the seeker against the readers of papers: both must tell the same of each case."""

import random
import unittest

from helping import clash_by_words, tight_net
from stovework.branches import best_branch, hopeful_rows
from stovework.cases import arcs_of, start_case
from stovework.chains import earliest_times, ring_total, tail_chains
from stovework.crowds import least_crowds
from stovework.finds import Find
from stovework.guesses import guess
from stovework.looks import first_look, look_behind, spans_of
from stovework.measures import Measures
from stovework.nets import Net, points_of
from stovework.papers import bound_of, parted
from stovework.plans import plan_fits
from stovework.stretches import best_stretch


class Looks(unittest.TestCase):
    def hold(self, measures, look):
        net, case = measures.net, look.case
        arcs = arcs_of(net, case)
        times, _, ring = earliest_times(points_of(net), arcs)
        if ring is not None:
            self.assertIsNone(look.bound)
            self.assertEqual(look.row[0], "ring")
            self.assertGreater(ring_total(arcs, look.row[1]), 0)
            return
        self.assertEqual(look.heads.times, times)
        self.assertEqual(look.tails.times, tail_chains(points_of(net), arcs)[0])
        best = best_stretch(net, case)
        self.assertEqual(look.bound, max([0] + times + ([] if best is None else [best[0]])))
        self.assertEqual(bound_of(net, case, look.row), look.bound)
        self.hold_crowds(measures, look)
        self.hold_guess(measures, look)

    def hold_crowds(self, measures, look):
        for tasks in least_crowds(measures, look.case[0], spans_of(measures, look)):
            self.assertTrue(clash_by_words(measures.net, look.case, tasks))
            for i in tasks:
                self.assertFalse(clash_by_words(measures.net, look.case, [j for j in tasks if j != i]))
            self.assertIsNotNone(parted(measures.net, look.case, ("split", tasks)))

    def hold_guess(self, measures, look):
        plan, tasks = guess(measures, look)
        self.assertEqual(plan is None, tasks != [])
        if plan is not None:
            self.assertTrue(plan_fits(measures.net, plan))
        else:
            for row in hopeful_rows(measures, look, 100):
                self.assertIsNotNone(parted(measures.net, look.case, row))
            self.assertNotEqual(hopeful_rows(measures, look, 0), [])

    def test_down_from_the_start(self):
        chance = random.Random(33)
        deep = 0
        for _ in range(300):
            measures = Measures(tight_net(chance, 6))
            look = first_look(measures)
            self.assertEqual(look.case, start_case(measures.net))
            self.hold(measures, look)
            depth = 0
            while look.bound is not None and guess(measures, look)[0] is None:
                row, looks = best_branch(measures, look, chance.choice((0, 8, 60)))
                self.assertEqual([each.case for each in looks], parted(measures.net, look.case, row))
                for each in looks:
                    self.hold(measures, each)
                look = chance.choice(looks)
                depth += 1
            deep += depth > 2
        self.assertGreater(deep, 20)

    def test_any_row_that_is_right(self):
        chance = random.Random(34)
        for _ in range(200):
            net = tight_net(chance, 5)
            measures = Measures(net)
            look = first_look(measures)
            while look.bound is not None:
                rows = [("ways", i) for i in range(len(net.tasks))]
                rows.extend(("split", [i, j]) for i in range(len(net.tasks)) for j in range(i))
                rows = [row for row in rows if parted(net, look.case, row) is not None]
                if not rows:
                    break
                look = look_behind(measures, look, chance.choice(parted(net, look.case, chance.choice(rows))))
                self.hold(measures, look)


class Guesses(unittest.TestCase):
    def guess(self, tasks, arcs=()):
        measures = Measures(Net({"pot": 1, "axe": 1}, tasks, list(arcs)))
        return guess(measures, first_look(measures))

    def test_by_the_length_of_the_span(self):
        ways = [(4, 5, []), (7, 9, [])]
        for length, way in ((4, 0), (5, 0), (7, 1), (9, 1)):
            self.assertEqual(self.guess([ways], [(0, 1, length)]), (([(0, length, way)], []), []))
        self.assertEqual(self.guess([ways], [(0, 1, 6)]), (None, [0]))

    def test_by_what_the_others_use(self):
        pot, axe = (3, 5, [("pot", 1, 0)]), (3, 5, [("axe", 1, 0)])
        runs = [(0, 3, 0), (0, 3, 1)]
        self.assertEqual(self.guess([[pot], [pot, axe]]), ((runs, []), []))
        self.assertEqual(self.guess([[pot, axe], [pot, axe]]), ((runs, []), []))
        self.assertEqual(self.guess([[pot], [pot, pot]]), (None, [0, 1]))
        # Where they don't meet, the first way is as good.
        self.assertEqual(self.guess([[pot], [pot, axe]], [(1, 2, 0)]), (([(0, 3, 0), (3, 6, 0)], []), []))


class Finds(unittest.TestCase):
    def test_only_shorter_plans_are_taken(self):
        chance = random.Random(35)
        for _ in range(100):
            measures = Measures(tight_net(chance, 3))
            look = first_look(measures)
            find = Find(measures)
            self.assertFalse(find.could_gain(None))
            self.assertTrue(find.could_gain(10**12))
            find.take_plan(look)
            if look.bound is not None:
                self.assertEqual(find.plan, guess(measures, look)[0])
            if find.plan is not None:
                self.assertFalse(find.could_gain(find.length))
                self.assertTrue(find.could_gain(find.length - 1))
                find.plan = "another"
                find.take_plan(look)
                self.assertEqual(find.plan, "another")


if __name__ == "__main__":
    unittest.main()
