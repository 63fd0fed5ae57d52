import random
import unittest
from fractions import Fraction

from stovework.errors import NoNumber
from stovework.packs import packs_for


def tuple_of(value):
    return (value.numerator, value.denominator)


class Packs(unittest.TestCase):
    def assert_right(self, need, size, have):
        """Holds the answer against the words of the promise alone, not against a way to reckon it."""
        told = packs_for(tuple_of(need), tuple_of(size), tuple_of(have))
        self.assertIs(type(told), tuple)
        count, left = told
        self.assertIs(type(count), int)
        self.assertGreaterEqual(count, 0)
        self.assertGreaterEqual(have + count * size, need)
        if count > 0:
            self.assertLess(have + (count - 1) * size, need)
        self.assertIs(type(left), tuple)
        self.assertEqual(left, tuple_of(have + count * size - need))

    def test_too_little_there(self):
        self.assertEqual(packs_for((7, 1), (2, 1), (2, 1)), (3, (1, 1)))
        self.assertEqual(packs_for((1, 2), (1, 3), (1, 12)), (2, (1, 4)))

    def test_just_enough_there(self):
        self.assertEqual(packs_for((2, 1), (3, 1), (2, 1)), (0, (0, 1)))
        self.assertEqual(packs_for((0, 1), (3, 1)), (0, (0, 1)))

    def test_more_than_enough_there(self):
        self.assertEqual(packs_for((2, 1), (1, 1), (5, 1)), (0, (3, 1)))
        self.assertEqual(packs_for((2, 1), (1, 4), (5, 1)), (0, (3, 1)))
        self.assertEqual(packs_for((0, 1), (1, 1), (1, 2)), (0, (1, 2)))

    def test_left_out_or_none_is_nothing_there(self):
        self.assertEqual(packs_for((5, 1), (2, 1)), (3, (1, 1)))
        self.assertEqual(packs_for((5, 1), (2, 1), None), (3, (1, 1)))
        self.assertEqual(packs_for((5, 1), (2, 1), (0, 1)), (3, (1, 1)))

    def test_below_nought_there(self):
        self.assertEqual(packs_for((2, 1), (2, 1), (-1, 1)), (2, (1, 1)))
        self.assertEqual(packs_for((0, 1), (2, 1), (-1, 2)), (1, (3, 2)))

    def test_below_nought_needed(self):
        self.assertEqual(packs_for((-3, 1), (2, 1)), (0, (3, 1)))
        self.assertEqual(packs_for((-3, 2), (2, 1), (1, 2)), (0, (2, 1)))
        self.assertEqual(packs_for((-3, 1), (2, 1), (-3, 1)), (0, (0, 1)))
        self.assertEqual(packs_for((-3, 1), (2, 1), (-4, 1)), (1, (1, 1)))

    def test_just_so_many_packs(self):
        self.assertEqual(packs_for((6, 1), (2, 1)), (3, (0, 1)))
        self.assertEqual(packs_for((1, 1), (1, 3)), (3, (0, 1)))
        self.assertEqual(packs_for((5, 4), (1, 2), (1, 4)), (2, (0, 1)))

    def test_a_very_little_more(self):
        small = Fraction(1, 10 ** 290)
        need = tuple_of(6 + small)
        self.assertEqual(packs_for(need, (2, 1)), (4, tuple_of(2 - small)))
        self.assertEqual(packs_for((6, 1), (2, 1), tuple_of(-small)), (4, tuple_of(2 - small)))
        self.assertEqual(packs_for(tuple_of(6 - small), (2, 1)), (3, tuple_of(small)))

    def test_a_size_not_above_nought_is_refused(self):
        for size in ((0, 1), (-1, 1), (-1, 2), (-10 ** 299, 1)):
            for need, have in (((2, 1), None), ((2, 1), (5, 1)), ((0, 1), (0, 1)), ((-2, 1), None)):
                with self.subTest(size=size, need=need, have=have):
                    with self.assertRaises(NoNumber):
                        packs_for(need, size, have)

    def test_many_small_ones(self):
        values = [Fraction(top, bottom) for bottom in (1, 2, 3) for top in range(-4, 5)]
        for need in values:
            for have in values:
                for size in (Fraction(1), Fraction(2), Fraction(1, 3), Fraction(3, 2)):
                    self.assert_right(need, size, have)

    def test_of_three_hundred_figures(self):
        chance = random.Random(8)

        def long_number():
            return chance.randrange(10 ** 299, 10 ** 300)

        for turn in range(20):
            sign = chance.choice((1, -1))
            need = Fraction(long_number(), long_number() if turn % 2 else 1)
            have = Fraction(sign * long_number(), long_number())
            self.assert_right(need, Fraction(long_number(), long_number()), have)
            self.assert_right(need, Fraction(1, long_number()), have)


if __name__ == "__main__":
    unittest.main()
