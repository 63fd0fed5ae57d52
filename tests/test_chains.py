import copy
import random
import unittest

from helping import all_chains, has_ring_above_0, total_by_words
from stovework.chains import chain_total, earliest_times, lag_between, ring_total, tail_chains

GREATEST = 10**9


def chance_arcs(chance, points, most, low, high):
    many = chance.randint(0, most) if points else 0
    return [(chance.randrange(points), chance.randrange(points), chance.randint(low, high)) for _ in range(many)]


class Lags(unittest.TestCase):
    def test_no_arc(self):
        self.assertIsNone(lag_between([], 0, 1))
        self.assertIsNone(lag_between([], 0, 0))
        self.assertIsNone(lag_between([(0, 1, 5), (1, 2, 5)], 0, 2))

    def test_one_arc_counts_one_way(self):
        for lag in (5, 0, -5, GREATEST, -GREATEST):
            self.assertEqual(lag_between([(0, 1, lag)], 0, 1), lag)
            self.assertIsNone(lag_between([(0, 1, lag)], 1, 0))
            self.assertIsNone(lag_between([(0, 1, lag)], 0, 0))

    def test_the_greatest_of_several_in_both_directions(self):
        arcs = [(0, 1, -7), (1, 0, 4), (0, 1, -3), (1, 0, 9), (0, 1, -5), (1, 0, 8)]
        self.assertEqual(lag_between(arcs, 0, 1), -3)
        self.assertEqual(lag_between(arcs, 1, 0), 9)
        self.assertEqual(lag_between([(2, 3, 1), (2, 3, 1)], 2, 3), 1)

    def test_below_0_and_0(self):
        self.assertEqual(lag_between([(0, 1, -2), (0, 1, 0)], 0, 1), 0)
        self.assertEqual(lag_between([(0, 1, 0), (0, 1, -2)], 0, 1), 0)

    def test_an_arc_from_a_point_to_itself(self):
        self.assertEqual(lag_between([(1, 1, -4), (0, 1, 8), (1, 1, -2)], 1, 1), -2)
        self.assertIsNone(lag_between([(1, 1, -4)], 0, 0))


class Totals(unittest.TestCase):
    arcs = [(0, 1, 3), (1, 2, -5), (0, 1, 2), (2, 0, 1), (2, 2, 7), (1, 0, 0)]

    def test_chains_of_no_point_and_of_one(self):
        for arcs in ([], self.arcs):
            self.assertEqual(chain_total(arcs, []), 0)
            for point in (0, 2, 59, 60, 10**12, -1):
                self.assertEqual(chain_total(arcs, [point]), 0)

    def test_chains_of_several(self):
        self.assertEqual(chain_total(self.arcs, [0, 1]), 3)
        self.assertEqual(chain_total(self.arcs, [0, 1, 2]), -2)
        self.assertEqual(chain_total(self.arcs, [1, 2, 0]), -4)

    def test_chains_with_a_point_twice(self):
        self.assertEqual(chain_total(self.arcs, [0, 1, 2, 0, 1]), 2)
        self.assertEqual(chain_total(self.arcs, [0, 1, 0, 1, 0]), 6)
        self.assertEqual(chain_total(self.arcs, [1, 2, 2, 2]), 9)
        self.assertIsNone(chain_total(self.arcs, [0, 0]))

    def test_chains_with_a_gap(self):
        for chain in ([0, 2], [0, 1, 2, 1], [2, 1, 0], [0, 1, 3], [3, 0], [0, 1, 2, 3, 2], [-1, 0]):
            self.assertIsNone(chain_total(self.arcs, chain))
        self.assertIsNone(chain_total([], [0, 1]))

    def test_a_total_of_0_is_one(self):
        self.assertEqual(chain_total([(0, 1, 4), (1, 2, -4)], [0, 1, 2]), 0)

    def test_rings_of_no_point_and_of_one(self):
        self.assertIsNone(ring_total([], []))
        self.assertIsNone(ring_total(self.arcs, []))
        self.assertIsNone(ring_total(self.arcs, [0]))
        self.assertIsNone(ring_total(self.arcs, [9]))
        self.assertEqual(ring_total(self.arcs, [2]), 7)
        self.assertEqual(ring_total([(1, 1, -3)], [1]), -3)
        self.assertEqual(ring_total([(1, 1, 0), (1, 1, -3)], [1]), 0)

    def test_rings_of_several(self):
        self.assertEqual(ring_total(self.arcs, [0, 1, 2]), -1)
        self.assertEqual(ring_total(self.arcs, [2, 0, 1]), -1)
        self.assertEqual(ring_total(self.arcs, [0, 1]), 3)
        self.assertEqual(ring_total(self.arcs, [0, 1, 0, 1]), 6)
        self.assertEqual(ring_total(self.arcs, [1, 2, 2, 0]), 6)
        self.assertEqual(ring_total(self.arcs, [2, 2]), 14)

    def test_rings_with_a_gap(self):
        for ring in ([0, 2], [1, 2], [0, 2, 1], [0, 1, 2, 1], [0, 3], [3, 3]):
            self.assertIsNone(ring_total(self.arcs, ring))

    def test_the_greatest_lags(self):
        arcs = [(p, (p + 1) % 60, GREATEST) for p in range(60)]
        self.assertEqual(chain_total(arcs, list(range(60))), 59 * GREATEST)
        self.assertEqual(ring_total(arcs, list(range(60))), 60 * GREATEST)

    def test_by_chance_by_the_words(self):
        chance = random.Random(32)
        counted = 0
        for _ in range(2000):
            points = chance.randint(1, 4)
            arcs = chance_arcs(chance, points, 14, -4, 4)
            chain = [chance.randrange(points) for _ in range(chance.randint(1, 5))]
            total = total_by_words(arcs, chain)
            self.assertEqual(chain_total(arcs, chain), total)
            self.assertEqual(ring_total(arcs, chain), total_by_words(arcs, chain + chain[:1]))
            self.assertEqual(lag_between(arcs, chain[0], chain[-1]), total_by_words(arcs, [chain[0], chain[-1]]))
            counted += total is not None and len(chain) > 2
        self.assertGreater(counted, 300)

    def test_handed_in_stays(self):
        arcs, chain = copy.deepcopy(self.arcs), [0, 1, 2]
        lag_between(arcs, 0, 1)
        chain_total(arcs, chain)
        ring_total(arcs, chain)
        self.assertEqual((arcs, chain), (self.arcs, [0, 1, 2]))


class Told(unittest.TestCase):
    """What both kinds of times are held against: the words of the promise."""

    def assert_ring(self, points, arcs, ring):
        self.assertIs(type(ring), list)
        self.assertEqual(len(set(ring)), len(ring))
        self.assertLessEqual(set(ring), set(range(points)))
        self.assertGreater(total_by_words(arcs, ring + ring[:1]), 0)
        self.assertGreater(len(ring), 0)

    def assert_chains(self, points, arcs, totals, chains):
        self.assertEqual((type(totals), type(chains)), (list, list))
        self.assertEqual((len(totals), len(chains)), (points, points))
        for point, chain in enumerate(chains):
            self.assertIs(type(chain), list)
            self.assertEqual(len(set(chain)), len(chain))
            self.assertEqual(total_by_words(arcs, chain), totals[point])

    def earliest(self, points, arcs):
        """The earliest times, held against the words; None where there is a ring."""
        before = copy.deepcopy(arcs)
        told = earliest_times(points, arcs)
        self.assertEqual(arcs, before)
        self.assertEqual((type(told), len(told)), (tuple, 3))
        times, chains, ring = told
        if ring is not None:
            self.assertEqual((times, chains), (None, None))
            self.assert_ring(points, arcs, ring)
            return None
        self.assert_chains(points, arcs, times, chains)
        self.assertEqual([chain[-1] for chain in chains], list(range(points)))
        # Times that keep all arcs, each of them a chain's total, are the least ones.
        for p, q, lag in arcs:
            self.assertGreaterEqual(times[q], times[p] + lag)
        self.assertEqual([time for time in times if time < 0], [])
        return times

    def tails(self, points, arcs):
        """The tails' sums, held against the words; None where there is a ring."""
        before = copy.deepcopy(arcs)
        told = tail_chains(points, arcs)
        self.assertEqual(arcs, before)
        self.assertEqual((type(told), len(told)), (tuple, 2))
        sums, chains = told
        if sums is None:
            self.assertIsNone(chains)
            return None
        self.assert_chains(points, arcs, sums, chains)
        self.assertEqual([chain[0] for chain in chains], list(range(points)))
        # No arc in front makes a chain greater.
        for p, q, lag in arcs:
            self.assertGreaterEqual(sums[p], sums[q] + lag)
        self.assertEqual([total for total in sums if total < 0], [])
        return sums


class Times(Told):
    def assert_both(self, points, arcs, times, sums):
        self.assertEqual(self.earliest(points, arcs), times)
        self.assertEqual(self.tails(points, arcs), sums)

    def test_no_points(self):
        self.assertEqual(earliest_times(0, []), ([], [], None))
        self.assertEqual(tail_chains(0, []), ([], []))

    def test_points_without_arcs(self):
        for points in (1, 2, 60):
            alone = [[point] for point in range(points)]
            self.assertEqual(earliest_times(points, []), ([0] * points, alone, None))
            self.assertEqual(tail_chains(points, []), ([0] * points, alone))

    def test_one_arc(self):
        self.assertEqual(earliest_times(2, [(0, 1, 5)]), ([0, 5], [[0], [0, 1]], None))
        self.assertEqual(tail_chains(2, [(0, 1, 5)]), ([5, 0], [[0, 1], [1]]))
        self.assertEqual(earliest_times(2, [(1, 0, 5)]), ([5, 0], [[1, 0], [1]], None))
        self.assertEqual(tail_chains(2, [(1, 0, 5)]), ([0, 5], [[0], [1, 0]]))

    def test_an_arc_that_asks_for_nothing(self):
        for lag in (-5, -GREATEST):
            self.assertEqual(earliest_times(2, [(0, 1, lag)]), ([0, 0], [[0], [1]], None))
            self.assertEqual(tail_chains(2, [(0, 1, lag)]), ([0, 0], [[0], [1]]))
        self.assert_both(2, [(0, 1, 0)], [0, 0], [0, 0])

    def test_lags_below_0_amid_a_chain(self):
        self.assert_both(4, [(0, 1, 5), (1, 2, -3), (2, 3, 4)], [0, 5, 2, 6], [6, 1, 4, 0])
        self.assert_both(3, [(0, 1, 5), (1, 2, -6)], [0, 5, 0], [5, 0, 0])
        self.assert_both(4, [(2, 3, 4), (1, 2, -7), (0, 1, 5)], [0, 5, 0, 4], [5, 0, 4, 0])

    def test_times_along_several_chains(self):
        arcs = [(0, 3, 6), (0, 1, 4), (1, 3, 3), (2, 3, 5), (0, 2, 1), (1, 2, -1)]
        self.assert_both(4, arcs, [0, 4, 3, 8], [8, 4, 5, 0])
        self.assertEqual(earliest_times(4, arcs)[1][3], [0, 1, 2, 3])
        self.assertEqual(tail_chains(4, arcs)[1][0], [0, 1, 2, 3])
        both = [(0, 1, 2), (1, 3, 3), (0, 2, 4), (2, 3, 1)]
        self.assert_both(4, both, [0, 2, 4, 5], [5, 3, 1, 0])

    def test_several_arcs_between_two_points(self):
        self.assert_both(2, [(0, 1, 3), (0, 1, 7), (0, 1, 5), (1, 0, -9), (1, 0, -8)], [0, 7], [7, 0])

    def test_a_window(self):
        self.assert_both(3, [(0, 1, 2), (1, 0, -4), (2, 1, 9)], [5, 9, 0], [2, 0, 9])

    def test_a_ring_of_just_0_and_of_just_1(self):
        self.assert_both(1, [(0, 0, 0)], [0], [0])
        self.assert_both(1, [(0, 0, 1)], None, None)
        self.assertEqual(earliest_times(1, [(0, 0, 1)]), (None, None, [0]))
        self.assert_both(2, [(0, 1, 7), (1, 0, -7)], [0, 7], [7, 0])
        self.assert_both(2, [(0, 1, 7), (1, 0, -6)], None, None)
        three = [(0, 1, 7), (1, 2, -9), (2, 0, 2)]
        self.assert_both(3, three, [2, 9, 0], [7, 0, 9])
        self.assert_both(3, three[:2] + [(2, 0, 3)], None, None)

    def test_the_ring_goes_along_its_arcs(self):
        ring = earliest_times(5, [(4, 2, 1), (2, 0, 1), (0, 3, 1), (3, 4, -2), (1, 4, 9)])[2]
        first = ring.index(0)
        self.assertEqual(ring[first:] + ring[:first], [0, 3, 4, 2])

    def test_a_ring_away_from_the_other_points(self):
        self.assert_both(5, [(0, 1, 50), (1, 2, 50), (3, 4, 1), (4, 3, 0)], None, None)
        self.assert_both(5, [(0, 1, 50), (1, 2, 50), (4, 4, 1)], None, None)
        self.assert_both(5, [(0, 0, 1), (3, 4, 70)], None, None)

    def test_a_ring_whose_first_arcs_lead_down(self):
        self.assert_both(3, [(0, 1, -9), (1, 2, -9), (2, 0, 19)], None, None)
        self.assert_both(3, [(0, 1, -9), (1, 2, -9), (2, 0, 18)], [18, 9, 0], [0, 9, 18])

    def test_arcs_to_themselves_that_hold(self):
        self.assert_both(2, [(0, 0, -3), (0, 1, 2), (1, 1, 0)], [0, 2], [2, 0])

    def test_the_greatest_lags_and_sixty_points(self):
        for order in (1, -1):
            arcs = [(p, p + 1, GREATEST) for p in range(59)][::order]
            self.assert_both(60, arcs, [p * GREATEST for p in range(60)], [(59 - p) * GREATEST for p in range(60)])
            closed = arcs + [(59, 0, -GREATEST)] * 3
            self.assert_both(60, closed, None, None)
            back = [(p + 1, p, -GREATEST) for p in range(59)][::order]
            self.assert_both(60, arcs + back, [p * GREATEST for p in range(60)], [(59 - p) * GREATEST for p in range(60)])
            self.assert_both(60, back + arcs + [(59, 0, -GREATEST)], None, None)

    def test_a_ring_of_sixty_points_with_just_0_and_just_1(self):
        for order in (1, -1):
            arcs = [(p, p + 1, 1) for p in range(59)][::order]
            self.assertEqual(self.earliest(60, arcs + [(59, 0, -59)]), list(range(60)))
            self.assertEqual(self.tails(60, [(59, 0, -59)] + arcs), [59 - p for p in range(60)])
            self.assert_both(60, arcs + [(59, 0, -58)], None, None)
            self.assertEqual(sorted(earliest_times(60, [(59, 0, -58)] + arcs)[2]), list(range(60)))

    def test_the_told_lists_are_the_askers_own(self):
        arcs = [(0, 1, 5), (1, 2, 5)]
        for ask in (earliest_times, tail_chains):
            told = ask(3, arcs)
            before = copy.deepcopy(told)
            told[0].clear()
            for chain in told[1]:
                chain.append(9)
            self.assertEqual([len(set(chain)) for chain in told[1]], [len(chain) for chain in told[1]])
            self.assertEqual(ask(3, arcs), before)

    def test_by_chance_by_the_words(self):
        chance = random.Random(33)
        rings = 0
        for _ in range(1500):
            points = chance.randint(0, 5)
            arcs = chance_arcs(chance, points, 9, -6, 3)
            ring = has_ring_above_0(points, arcs)
            times, sums = self.earliest(points, arcs), self.tails(points, arcs)
            self.assertEqual((times is None, sums is None), (ring, ring))
            if not ring:
                chains = [(chain, total_by_words(arcs, chain)) for chain in all_chains(points, arcs)]
                for point in range(points):
                    self.assertEqual(times[point], max(total for chain, total in chains if chain[-1] == point))
                    self.assertEqual(sums[point], max(total for chain, total in chains if chain[0] == point))
            rings += ring
        self.assertTrue(400 < rings < 1100, rings)

    def test_many_points_by_chance(self):
        chance = random.Random(34)
        kept = 0
        for _ in range(60):
            points = chance.randint(40, 60)
            arcs = []
            # Arcs on to later points by any lag, and back by as much or more.
            for _ in range(chance.randint(300, 1000)):
                p, q = sorted(chance.sample(range(points), 2))
                far = GREATEST // 60 * (q - p)
                arcs.append((p, q, far - chance.randint(0, 9)) if chance.random() < 0.5 else (q, p, -far))
            if chance.random() < 0.5:
                arcs.append((points - 1, 0, 1 - GREATEST // 60 * (points - 1)))
            chance.shuffle(arcs)
            times = self.earliest(points, arcs)
            self.assertEqual(self.tails(points, arcs) is None, times is None)
            kept += times is not None
        self.assertTrue(10 < kept < 60, kept)


if __name__ == "__main__":
    unittest.main()
