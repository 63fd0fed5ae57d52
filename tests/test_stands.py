import copy
import random
import unittest
from fractions import Fraction
from math import gcd

from stovework.stands import ways_out

BUTTER = {
    "butter": {"oil": (3, 4), "lard": (9, 10)},
    "oil": {"nutoil": (2, 3)},
    "lard": {"tallow": (5, 6), "nutoil": (1, 2)},
    "nutoil": {"butter": (2, 1)},
}


def short_name(number):
    return "n" + chr(ord("a") + number // 26) + chr(ord("a") + number % 26)


def all_chains(stands, good):
    """Every chain without a name twice; one with a name twice is never the shortest."""
    chains = [[good]]
    for chain in chains:
        for name in stands.get(chain[-1], {}):
            if name not in chain:
                chains.append(chain + [name])
    return chains


def by_words_alone(stands, good):
    best = {}
    for chain in all_chains(stands, good):
        old = best.get(chain[-1])
        if old is None or (len(chain), chain) < (len(old), old):
            best[chain[-1]] = chain
    pairs = []
    for chain in sorted(best.values(), key=lambda chain: (len(chain), chain)):
        value = Fraction(1)
        for place in range(1, len(chain)):
            value *= Fraction(*stands[chain[place - 1]][chain[place]])
        pairs.append((chain, (value.numerator, value.denominator)))
    return pairs


def some_stands(chance):
    names = ["b", "ba", "a", "ab", "aa", "c", "abc"][: chance.randrange(1, 8)]
    stands = {}
    for turn in range(chance.randrange(0, 16)):
        value = Fraction(chance.randrange(1, 10), chance.randrange(1, 10))
        stands.setdefault(chance.choice(names), {})[chance.choice(names)] = (value.numerator, value.denominator)
    return names, stands


class WaysOut(unittest.TestCase):
    def test_nothing_stands_in(self):
        self.assertEqual(ways_out({}, "egg"), [(["egg"], (1, 1))])
        self.assertEqual(ways_out({"egg": {}}, "egg"), [(["egg"], (1, 1))])
        self.assertEqual(ways_out(BUTTER, "tallow"), [(["tallow"], (1, 1))])

    def test_one_stands_in(self):
        self.assertEqual(ways_out({"egg": {"soy": (3, 2)}}, "egg"), [(["egg"], (1, 1)), (["egg", "soy"], (3, 2))])

    def test_a_chain_of_several(self):
        stands = {"a": {"b": (2, 3)}, "b": {"c": (9, 4)}, "c": {"d": (2, 1)}}
        self.assertEqual(
            ways_out(stands, "a"),
            [(["a"], (1, 1)), (["a", "b"], (2, 3)), (["a", "b", "c"], (3, 2)), (["a", "b", "c", "d"], (3, 1))],
        )
        self.assertEqual(ways_out(stands, "c"), [(["c"], (1, 1)), (["c", "d"], (2, 1))])

    def test_of_two_as_long_the_first_as_lists_are_ordered(self):
        self.assertEqual(
            ways_out(BUTTER, "butter"),
            [
                (["butter"], (1, 1)),
                (["butter", "lard"], (9, 10)),
                (["butter", "oil"], (3, 4)),
                (["butter", "lard", "nutoil"], (9, 20)),
                (["butter", "lard", "tallow"], (3, 4)),
            ],
        )

    def test_the_first_list_though_its_last_but_one_comes_later(self):
        stands = {
            "g": {"a": (2, 1), "b": (3, 1)},
            "a": {"z": (5, 1)},
            "b": {"c": (7, 1)},
            "z": {"end": (11, 1)},
            "c": {"end": (13, 1)},
        }
        told = ways_out(stands, "g")
        self.assertEqual(told[-1], (["g", "a", "z", "end"], (110, 1)))
        self.assertEqual([pair[0] for pair in told[3:5]], [["g", "a", "z"], ["g", "b", "c"]])

    def test_the_one_with_fewer_names_though_it_is_later_as_a_list(self):
        stands = {"g": {"a": (1, 2), "z": (1, 3)}, "a": {"b": (1, 5)}, "b": {"end": (1, 7)}, "z": {"end": (1, 11)}}
        told = dict((pair[0][-1], pair) for pair in ways_out(stands, "g"))
        self.assertEqual(told["end"], (["g", "z", "end"], (1, 33)))

    def test_a_shorter_text_comes_first(self):
        stands = {"g": {"ab": (1, 2), "a": (1, 3), "b": (1, 1), "aa": (2, 1)}}
        self.assertEqual([pair[0][-1] for pair in ways_out(stands, "g")], ["g", "a", "aa", "ab", "b"])

    def test_a_name_that_stands_for_itself(self):
        stands = {"g": {"g": (5, 1), "h": (1, 2)}, "h": {"h": (1, 3)}}
        self.assertEqual(ways_out(stands, "g"), [(["g"], (1, 1)), (["g", "h"], (1, 2))])

    def test_rings(self):
        stands = {"a": {"b": (2, 1)}, "b": {"c": (3, 1), "a": (5, 1)}, "c": {"a": (7, 1), "b": (11, 1)}}
        self.assertEqual(ways_out(stands, "a"), [(["a"], (1, 1)), (["a", "b"], (2, 1)), (["a", "b", "c"], (6, 1))])
        self.assertEqual(ways_out(stands, "c"), [(["c"], (1, 1)), (["c", "a"], (7, 1)), (["c", "b"], (11, 1))])

    def test_chance_ones(self):
        chance = random.Random(11)
        for turn in range(400):
            names, stands = some_stands(chance)
            for good in names:
                self.assertEqual(ways_out(stands, good), by_words_alone(stands, good))

    def test_eighty_names_in_a_row(self):
        names = [short_name(number) for number in range(80)]
        stands = {names[k]: {names[k + 1]: (k + 2, k + 1)} for k in range(79)}
        told = ways_out(stands, names[0])
        self.assertEqual(told, [(names[: k + 1], (k + 1, 1)) for k in range(80)])

    def test_eighty_names_all_for_each_other(self):
        names = [short_name(number) for number in range(80)]
        stands = {name: {other: (2, 3) for other in reversed(names)} for name in names}
        told = ways_out(stands, names[40])
        others = names[:40] + names[41:]
        self.assertEqual(told, [([names[40]], (1, 1))] + [([names[40], other], (2, 3)) for other in others])

    def test_ratios_of_many_figures(self):
        top, bottom = 10 ** 59 + 1, 10 ** 59
        self.assertEqual(gcd(top, bottom), 1)
        stands = {short_name(k): {short_name(k + 1): (top, bottom)} for k in range(60)}
        self.assertEqual(ways_out(stands, short_name(0))[-1][1], (top ** 60, bottom ** 60))
        back = {"a": {"b": (top, bottom)}, "b": {"c": (bottom, top)}}
        self.assertEqual(ways_out(back, "a")[-1], (["a", "b", "c"], (1, 1)))

    def test_kinds(self):
        told = ways_out(BUTTER, "butter")
        self.assertIs(type(told), list)
        for pair in told:
            self.assertEqual([type(pair), type(pair[0]), type(pair[1])], [tuple, list, tuple])

    def test_what_is_handed_in_stays_and_what_is_told_is_new(self):
        stands = copy.deepcopy(BUTTER)
        told = ways_out(stands, "butter")
        kept = copy.deepcopy(told)
        for pair in told:
            pair[0].append("egg")
        told.clear()
        self.assertEqual(stands, BUTTER)
        self.assertEqual([list(stands[name]) for name in stands], [list(BUTTER[name]) for name in BUTTER])
        self.assertEqual(ways_out(stands, "butter"), kept)

    def test_a_changed_chain_changes_no_other_one(self):
        told = ways_out(BUTTER, "butter")
        told[0][0].append("egg")
        told[1][0].append("egg")
        self.assertEqual(told[2][0], ["butter", "oil"])
        self.assertEqual(told[3][0], ["butter", "lard", "nutoil"])


if __name__ == "__main__":
    unittest.main()
