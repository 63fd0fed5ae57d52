import math
import random
import unittest

from stovework.wholes import divisor, is_whole

NO_WHOLES = (
    True,
    False,
    None,
    1.0,
    0.0,
    float("nan"),
    1j,
    "",
    "1",
    b"1",
    (),
    (1,),
    (1, 1),
    [],
    [1],
    {},
    {1: 1},
    {1},
    object(),
    int,
    len,
)


def thousand_figures(chance):
    return chance.randrange(10 ** 999, 10 ** 1000)


def neighbours_of_a_thousand_figures():
    # Two neighbours of Fibonacci's row make the divisor's longest walk.
    lesser, greater = 0, 1
    while greater < 10 ** 999:
        lesser, greater = greater, lesser + greater
    return lesser, greater


class IsWhole(unittest.TestCase):
    def test_whole_numbers(self):
        for number in (0, 1, -1, 2, -2, 255, 256, 257, -300, 10 ** 60, -10 ** 60, 10 ** 999, -10 ** 999):
            self.assertIs(is_whole(number), True)

    def test_other_things(self):
        for thing in NO_WHOLES:
            with self.subTest(thing=thing):
                self.assertIs(is_whole(thing), False)


class Divisor(unittest.TestCase):
    def test_of_nought_and_nought(self):
        self.assertEqual(divisor(0, 0), 0)

    def test_of_nought_and_another_one(self):
        for other in (1, 5, 12, 10 ** 999):
            for signed in (other, -other):
                self.assertEqual(divisor(0, signed), other)
                self.assertEqual(divisor(signed, 0), other)

    def test_by_hand(self):
        for one, other, common in ((12, 18, 6), (18, 12, 6), (7, 7, 7), (8, 9, 1), (1, 100, 1), (5, 20, 5), (20, 5, 5)):
            for first in (one, -one):
                for second in (other, -other):
                    with self.subTest(first=first, second=second):
                        self.assertEqual(divisor(first, second), common)

    def test_all_small_pairs(self):
        for one in range(-30, 31):
            for other in range(-30, 31):
                found = divisor(one, other)
                self.assertIs(type(found), int)
                self.assertEqual(found, math.gcd(one, other), (one, other))

    def test_of_a_thousand_figures(self):
        chance = random.Random(4)
        for turn in range(6):
            common = chance.randrange(10 ** 399, 10 ** 400)
            one = common * chance.randrange(10 ** 599, 10 ** 600)
            other = -common * chance.randrange(10 ** 599, 10 ** 600)
            self.assertEqual(divisor(one, other), math.gcd(one, other))
            self.assertEqual(divisor(one, other) % common, 0)
            self.assertEqual(divisor(thousand_figures(chance), 1), 1)
            self.assertEqual(divisor(one, one), one)

    def test_of_the_longest_walk(self):
        lesser, greater = neighbours_of_a_thousand_figures()
        self.assertEqual(len(str(greater)), 1000)
        self.assertEqual(divisor(lesser, greater), 1)
        self.assertEqual(divisor(-greater, lesser), 1)


if __name__ == "__main__":
    unittest.main()
