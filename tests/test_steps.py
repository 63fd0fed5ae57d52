import random
import unittest
from fractions import Fraction

from stovework.steps import Cut, Rest, Step, Warm

FILL = (3, 2)
USES = [("pan", 1, 200), ("knife", 2, 0)]
SECOND = (3, 9, [("oven", 1, 180), ("bowl", 1, 0)])
FACTORS = ((1, 1), (2, 1), (1, 2), (3, 2), (2, 3), (7, 3), (1, 1000), (1000, 1), (999, 1000), (1001, 1000))


def make_cut(*rest):
    return Cut("chop", 4, 7, *rest)


def make_rest(*rest):
    return Rest("cool", 4, 7, *rest)


def make_warm(*rest):
    return Warm("fry", 4, 7, FILL, *rest)


def make_step(*rest):
    return Step("wait", 4, 7, *rest)


MAKERS = (make_step, make_cut, make_warm, make_rest)


def least_not_less(number):
    """The least whole number that is not less, found by trying."""
    found = int(number) - 2
    while found < number:
        found += 1
    return found


def shown(step):
    return (step.name, step.least, step.most, list(step.uses), step.second)


class Values(unittest.TestCase):
    def test_what_a_step_has(self):
        for make, name in zip(MAKERS, ("wait", "chop", "fry", "cool")):
            with self.subTest(make=make.__name__):
                step = make(USES, SECOND)
                self.assertEqual(step.name, name)
                self.assertEqual((step.least, step.most), (4, 7))
                self.assertEqual(step.uses, [("pan", 1, 200), ("knife", 2, 0)])
                self.assertEqual(step.second, (3, 9, [("oven", 1, 180), ("bowl", 1, 0)]))
                self.assertIs(type(step.second), tuple)

    def test_what_is_left_out_or_none(self):
        for make in MAKERS:
            with self.subTest(make=make.__name__):
                for step in (make(), make(None), make(None, None), make([]), make([], None)):
                    self.assertEqual(step.uses, [])
                    self.assertIsNone(step.second)
                self.assertEqual(make(USES).uses, USES)
                self.assertIsNone(make(USES).second)
                self.assertEqual(make(None, SECOND).uses, [])
                self.assertEqual(make(None, SECOND).second, SECOND)
                self.assertEqual(make(None, (1, 1, [])).second, (1, 1, []))

    def test_nothing_left_out_is_common_to_two_steps(self):
        for make in MAKERS:
            self.assertIsNot(make().uses, make().uses)

    def test_a_warm_step_has_its_fill(self):
        self.assertEqual(make_warm().fill, (3, 2))
        self.assertEqual(Warm("fry", 1, 2, (1, 3), USES, SECOND).fill, (1, 3))

    def test_three_kinds_under_one_base(self):
        for kind in (Cut, Warm, Rest):
            self.assertEqual(kind.__mro__, (kind, Step, object))
        self.assertEqual(Step.__mro__, (Step, object))

    def test_each_kind_tells_its_word(self):
        self.assertEqual([make().word() for make in MAKERS], ["step", "cut", "warm", "rest"])

    def test_lists_handed_in_are_kept_as_copies(self):
        for make in MAKERS:
            with self.subTest(make=make.__name__):
                uses = list(USES)
                inner = list(SECOND[2])
                step = make(uses, (3, 9, inner))
                uses.append(("late", 1, 1))
                uses[0] = ("late", 2, 2)
                inner.clear()
                self.assertEqual(step.uses, USES)
                self.assertEqual(step.second, SECOND)
                self.assertEqual(step.grown((1, 1)), [(4, 7, sorted(USES)), (3, 9, sorted(SECOND[2]))])

    def test_what_is_handed_in_stays(self):
        uses = list(USES)
        second = (3, 9, list(SECOND[2]))
        for make in MAKERS:
            step = make(uses, second)
            step.grown((3, 2))
            step.rounds((3, 2), (1, 1))
            self.assertEqual(uses, [("pan", 1, 200), ("knife", 2, 0)])
            self.assertEqual(second, (3, 9, [("oven", 1, 180), ("bowl", 1, 0)]))


class Lengths(unittest.TestCase):
    def test_a_cut_step_by_factors_above_below_and_equal_to_1(self):
        step = make_cut()
        self.assertEqual(step.span(4, 7, (1, 1)), (4, 7))
        self.assertEqual(step.span(4, 7, (2, 1)), (8, 14))
        self.assertEqual(step.span(4, 7, (1, 2)), (2, 4))
        self.assertEqual(step.span(4, 7, (3, 2)), (6, 11))
        self.assertEqual(step.span(4, 7, (1, 7)), (1, 1))
        self.assertEqual(step.span(4, 7, (1, 100)), (1, 1))
        self.assertEqual(step.span(3, 6, (2, 3)), (2, 4))
        self.assertEqual(step.span(3, 6, (4, 9)), (2, 3))
        self.assertIs(type(step.span(4, 7, (3, 2))), tuple)

    def test_a_cut_step_is_never_below_and_never_a_whole_turn_above(self):
        for factor in FACTORS:
            for least in (1, 2, 3, 10, 999, 1000, 1001):
                for most in (least, least + 1, 3 * least):
                    wanted = tuple(least_not_less(length * Fraction(*factor)) for length in (least, most))
                    self.assertEqual(make_cut().span(least, most, factor), wanted)

    def test_other_lengths_stay(self):
        for make in (make_step, make_warm, make_rest):
            for factor in FACTORS:
                self.assertEqual(make().span(4, 7, factor), (4, 7))
                self.assertEqual(make().span(11, 13, factor), (11, 13))

    def test_span_goes_by_what_is_handed_in(self):
        self.assertEqual(make_cut().span(5, 50, (1, 2)), (3, 25))

    def test_numbers_of_thirty_figures(self):
        great = 10**30 - 1
        self.assertEqual(make_cut().span(great, great, (1, 1)), (great, great))
        self.assertEqual(make_cut().span(10**29, 10**29 + 1, (great, 10**29)), (great, great + 10))
        self.assertEqual(make_cut().span(1, great, (1, great)), (1, 1))
        self.assertEqual(make_cut().span(great, great, (1, 2)), (5 * 10**29, 5 * 10**29))
        self.assertEqual(make_cut().span(great - 1, great, (great, great - 1)), (great, great + 2))
        for make in (make_step, make_warm, make_rest):
            self.assertEqual(make().span(great, great, (great, 2)), (great, great))


class Rounds(unittest.TestCase):
    def test_just_so_many_pans_a_little_more_and_a_little_less(self):
        step = Warm("fry", 1, 2, (6, 1))
        self.assertEqual(step.rounds((1, 1), (2, 1)), 3)
        self.assertEqual(step.rounds((1001, 1000), (2, 1)), 4)
        self.assertEqual(step.rounds((999, 1000), (2, 1)), 3)
        self.assertEqual(step.rounds((2, 3), (2, 1)), 2)
        self.assertEqual(step.rounds((1, 1), (1999, 1000)), 4)
        self.assertEqual(step.rounds((1, 1), (2001, 1000)), 3)
        self.assertEqual(step.rounds((1, 1), (6, 1)), 1)
        self.assertEqual(step.rounds((1, 1), (7, 1)), 1)
        self.assertEqual(step.rounds((1, 1000), (1000, 1)), 1)

    def test_by_trying(self):
        chance = random.Random(14)
        for _ in range(300):
            numbers = [Fraction(chance.randint(1, 30), chance.randint(1, 12)) for _ in range(3)]
            fill, factor, size = [(number.numerator, number.denominator) for number in numbers]
            wanted = least_not_less(numbers[0] * numbers[1] / numbers[2])
            self.assertEqual(Warm("fry", 1, 2, fill).rounds(factor, size), wanted)
            for make in (make_step, make_cut, make_rest):
                self.assertEqual(make().rounds(factor, size), 1)

    def test_thirty_figures(self):
        great = 10**30 - 1
        self.assertEqual(Warm("fry", 1, 2, (great, 1)).rounds((1000, 1), (1, great)), 1000 * great * great)
        self.assertEqual(Warm("fry", 1, 2, (1, great)).rounds((1, 1000), (great, 1)), 1)
        self.assertEqual(Warm("fry", 1, 2, (great, great - 1)).rounds((1, 1), (1, 1)), 2)
        self.assertEqual(Warm("fry", 1, 2, (great - 1, great)).rounds((1, 1), (1, 1)), 1)
        for make in (make_step, make_cut, make_rest):
            self.assertEqual(make().rounds((great, 1), (1, great)), 1)


class Grown(unittest.TestCase):
    def test_one_way(self):
        for make in (make_step, make_warm, make_rest):
            self.assertEqual(make().grown((3, 2)), [(4, 7, [])])
        self.assertEqual(make_cut().grown((3, 2)), [(6, 11, [])])

    def test_two_ways(self):
        for make in (make_step, make_warm, make_rest):
            self.assertEqual(make(USES, SECOND).grown((3, 2)), [(4, 7, sorted(USES)), (3, 9, sorted(SECOND[2]))])
        self.assertEqual(make_cut(USES, SECOND).grown((3, 2)), [(6, 11, sorted(USES)), (5, 14, sorted(SECOND[2]))])
        self.assertEqual(make_cut(USES, SECOND).grown((1, 2)), [(2, 4, sorted(USES)), (2, 5, sorted(SECOND[2]))])
        self.assertEqual(make_cut(None, (5, 5, [])).grown((1, 1)), [(4, 7, []), (5, 5, [])])

    def test_uses_are_sorted_as_tuples_are(self):
        uses = [("pot", 2, 1), ("ab", 9, 9), ("pot", 1, 5), ("abc", 1, 0), ("pot", 1, 4), ("b", 1, 0)]
        wanted = [("ab", 9, 9), ("abc", 1, 0), ("b", 1, 0), ("pot", 1, 4), ("pot", 1, 5), ("pot", 2, 1)]
        for make in MAKERS:
            step = make(uses, (1, 2, list(reversed(uses))))
            self.assertEqual([way[2] for way in step.grown((1, 1))], [wanted, wanted])
            self.assertEqual(step.uses, uses)
            self.assertEqual(step.second[2], list(reversed(uses)))

    def test_kinds(self):
        for make in MAKERS:
            ways = make(USES, SECOND).grown((1, 1))
            self.assertIs(type(ways), list)
            for way in ways:
                self.assertEqual([type(part) for part in way], [int, int, list])
                self.assertIs(type(way), tuple)

    def test_new_lists_each_time(self):
        for make in MAKERS:
            step = make(USES, SECOND)
            before = shown(step)
            told = step.grown((3, 2))
            wanted = [(way[0], way[1], list(way[2])) for way in told]
            for way in told:
                way[2].clear()
            told.clear()
            self.assertEqual(step.grown((3, 2)), wanted)
            self.assertEqual(shown(step), before)

    def test_no_list_in_common(self):
        for make in MAKERS:
            step = make(USES, SECOND)
            one = step.grown((1, 1))
            other = step.grown((1, 1))
            lists = [step.uses, step.second[2]] + [way[2] for way in one + other] + [one, other]
            self.assertEqual(len({id(each) for each in lists}), len(lists))


if __name__ == "__main__":
    unittest.main()
