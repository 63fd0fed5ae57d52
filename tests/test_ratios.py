import math
import random
import unittest
from fractions import Fraction

from stovework.errors import NoNumber
from stovework.ratios import (
    fraction,
    is_fraction,
    is_less,
    minus,
    plus,
    product,
    quotient,
    round_down,
    round_up,
)

NO_WHOLES = (True, False, None, 1.0, 2.5, "1", "", b"1", (1, 2), (), [1], {}, {1}, object())


def tuple_of(value):
    return (value.numerator, value.denominator)


def small_fractions():
    return [Fraction(top, bottom) for bottom in (1, 2, 3, 4, 6) for top in range(-7, 8)]


def long_fractions(chance):
    def long_number():
        return chance.randrange(10 ** 999, 10 ** 1000)

    return [Fraction(sign * long_number(), long_number()) for sign in (1, -1, 1, -1)]


class Checks(unittest.TestCase):
    def assert_fraction(self, told, value):
        self.assertIs(type(told), tuple)
        self.assertEqual(told, tuple_of(value))
        self.assertEqual([type(part) for part in told], [int, int])


class Made(Checks):
    def test_in_lowest_terms(self):
        for top, bottom, told in ((6, 4, (3, 2)), (4, 6, (2, 3)), (3, 1, (3, 1)), (10, 5, (2, 1)), (1, 7, (1, 7))):
            with self.subTest(top=top, bottom=bottom):
                self.assertEqual(fraction(top, bottom), told)
                self.assertEqual(fraction(-top, bottom), (-told[0], told[1]))
                self.assertEqual(fraction(top, -bottom), (-told[0], told[1]))
                self.assertEqual(fraction(-top, -bottom), told)

    def test_of_nought(self):
        for bottom in (1, -1, 5, -5, 10 ** 999):
            self.assertEqual(fraction(0, bottom), (0, 1))

    def test_second_left_out(self):
        for top in (0, 1, -1, 12, -12, 10 ** 999):
            self.assertEqual(fraction(top), (top, 1))

    def test_all_small_pairs(self):
        for top in range(-20, 21):
            for bottom in range(-20, 21):
                if bottom != 0:
                    self.assert_fraction(fraction(top, bottom), Fraction(top, bottom))

    def test_of_a_thousand_figures(self):
        chance = random.Random(5)
        for turn in range(6):
            common = chance.randrange(10 ** 499, 10 ** 500)
            top = common * chance.randrange(10 ** 499, 10 ** 500)
            bottom = common * chance.randrange(10 ** 499, 10 ** 500)
            self.assert_fraction(fraction(top, -bottom), Fraction(top, -bottom))

    def test_a_bottom_of_nought_is_refused(self):
        for top in (0, 1, -1, 10 ** 999):
            with self.assertRaises(NoNumber):
                fraction(top, 0)

    def test_no_whole_number_is_refused(self):
        for thing in NO_WHOLES:
            with self.subTest(thing=thing):
                self.assertRaises(NoNumber, fraction, thing)
                self.assertRaises(NoNumber, fraction, thing, 2)
                self.assertRaises(NoNumber, fraction, thing, 0)
                self.assertRaises(NoNumber, fraction, 2, thing)
                self.assertRaises(NoNumber, fraction, thing, thing)


class IsFraction(unittest.TestCase):
    def test_fractions(self):
        lesser, greater = 10 ** 999, 10 ** 999 + 1
        for thing in ((0, 1), (1, 1), (-1, 1), (3, 2), (-3, 2), (1, 7), (12, 1), (lesser, greater), (-greater, lesser)):
            self.assertIs(is_fraction(thing), True)

    def test_not_in_lowest_terms(self):
        for thing in ((2, 4), (-2, 4), (2, 2), (0, 2), (0, 10 ** 999), (6, 3), (10 ** 999, 10 ** 999)):
            self.assertIs(is_fraction(thing), False)

    def test_a_bottom_of_nought_or_below(self):
        for thing in ((1, 0), (0, 0), (-1, 0), (1, -1), (-1, -1), (0, -1), (3, -2), (-3, -2)):
            self.assertIs(is_fraction(thing), False)

    def test_not_two_things(self):
        for thing in ((), (1,), (1, 2, 3), (1, 1, 1), (0, 1, 1)):
            self.assertIs(is_fraction(thing), False)

    def test_no_whole_number_within(self):
        for thing in NO_WHOLES:
            with self.subTest(thing=thing):
                self.assertIs(is_fraction((thing, 1)), False)
                self.assertIs(is_fraction((1, thing)), False)
                self.assertIs(is_fraction((thing, thing)), False)

    def test_other_things(self):
        for thing in (
            True,
            None,
            0,
            1,
            0.5,
            "12",
            b"12",
            [],
            [1, 2],
            {},
            {1: 2, 2: 1},
            {1, 2},
            Fraction(1, 2),
            object(),
            int,
        ):
            with self.subTest(thing=thing):
                self.assertIs(is_fraction(thing), False)


class Reckoned(Checks):
    def assert_all_of_a_pair(self, one, other):
        first, second = tuple_of(one), tuple_of(other)
        self.assert_fraction(plus(first, second), one + other)
        self.assert_fraction(minus(first, second), one - other)
        self.assert_fraction(product(first, second), one * other)
        if other != 0:
            self.assert_fraction(quotient(first, second), one / other)
        self.assertIs(is_less(first, second), one < other)

    def test_by_hand(self):
        self.assertEqual(plus((1, 2), (1, 3)), (5, 6))
        self.assertEqual(plus((1, 2), (1, 2)), (1, 1))
        self.assertEqual(minus((1, 2), (1, 3)), (1, 6))
        self.assertEqual(minus((1, 3), (1, 2)), (-1, 6))
        self.assertEqual(minus((3, 4), (3, 4)), (0, 1))
        self.assertEqual(product((2, 3), (3, 4)), (1, 2))
        self.assertEqual(product((-2, 3), (0, 1)), (0, 1))
        self.assertEqual(quotient((1, 2), (3, 4)), (2, 3))
        self.assertEqual(quotient((1, 2), (-3, 4)), (-2, 3))
        self.assertEqual(quotient((0, 1), (-3, 4)), (0, 1))

    def test_all_small_pairs(self):
        values = small_fractions()
        for one in values:
            for other in values:
                self.assert_all_of_a_pair(one, other)

    def test_of_a_thousand_figures(self):
        values = long_fractions(random.Random(6)) + [Fraction(0), Fraction(1, 3)]
        for one in values:
            for other in values:
                self.assert_all_of_a_pair(one, other)

    def test_divided_by_nought_is_refused(self):
        for one in ((0, 1), (1, 1), (-1, 2), (10 ** 999, 3)):
            with self.assertRaises(NoNumber):
                quotient(one, (0, 1))

    def test_less(self):
        self.assertIs(is_less((1, 3), (1, 2)), True)
        self.assertIs(is_less((1, 2), (1, 3)), False)
        self.assertIs(is_less((-1, 2), (-1, 3)), True)
        self.assertIs(is_less((-1, 3), (-1, 2)), False)
        self.assertIs(is_less((-1, 2), (0, 1)), True)
        self.assertIs(is_less((2, 3), (2, 3)), False)
        self.assertIs(is_less((0, 1), (0, 1)), False)

    def test_less_by_a_very_little(self):
        little = (10 ** 999, 10 ** 999 + 1)
        self.assertIs(is_less(little, (1, 1)), True)
        self.assertIs(is_less((1, 1), little), False)


class Rounded(unittest.TestCase):
    def test_by_hand(self):
        for one, down, up in (
            ((0, 1), 0, 0),
            ((3, 1), 3, 3),
            ((-3, 1), -3, -3),
            ((1, 2), 0, 1),
            ((-1, 2), -1, 0),
            ((7, 2), 3, 4),
            ((-7, 2), -4, -3),
            ((7, 3), 2, 3),
            ((8, 3), 2, 3),
            ((-8, 3), -3, -2),
        ):
            with self.subTest(one=one):
                self.assertEqual(round_down(one), down)
                self.assertEqual(round_up(one), up)

    def test_small_and_long_ones(self):
        for value in small_fractions() + long_fractions(random.Random(7)):
            one = tuple_of(value)
            self.assertIs(type(round_down(one)), int)
            self.assertIs(type(round_up(one)), int)
            self.assertEqual(round_down(one), math.floor(value))
            self.assertEqual(round_up(one), math.ceil(value))

    def test_beside_a_long_whole_number(self):
        whole = 10 ** 999
        self.assertEqual(round_up((whole * 3 + 1, 3)), whole + 1)
        self.assertEqual(round_down((whole * 3 - 1, 3)), whole - 1)
        self.assertEqual(round_up((whole, 1)), whole)
        self.assertEqual(round_down((-whole, 1)), -whole)


if __name__ == "__main__":
    unittest.main()
