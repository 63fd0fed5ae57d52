import copy
import random
import unittest

from stovework.parts import all_inside, chain_down

PIE = {
    "pie": {"dough": True, "filling": True},
    "dough": {"flour": True, "butter": True},
    "filling": {"apple": True, "butter": True},
    "butter": {"milk": True},
}

RINGS = {
    "a": {"b": True},
    "b": {"c": True, "e": True},
    "c": {"a": True, "d": True},
    "d": {"c": True},
    "e": {"e": True, "f": True},
    "self": {"self": True},
}


def short_name(number):
    return "n" + chr(ord("a") + number // 26) + chr(ord("a") + number % 26)


def long_row():
    return {short_name(number): {short_name(number + 1): True} for number in range(79)}


def row_names():
    return [short_name(number) for number in range(80)]


def by_words_alone(parts, good):
    """All in a good, by adding parts for as long as there is one that is not there yet."""
    found = {good}
    while True:
        more = {part for name in found for part in parts.get(name, {})} - found
        if not more:
            return sorted(found)
        found |= more


def some_parts(chance):
    names = "abcdefg"[: chance.randrange(1, 8)]
    parts = {}
    for turn in range(chance.randrange(0, 12)):
        parts.setdefault(chance.choice(names), {})[chance.choice(names)] = True
    return names, parts


class AllInside(unittest.TestCase):
    def test_without_parts(self):
        self.assertEqual(all_inside({}, "egg"), ["egg"])
        self.assertEqual(all_inside({"egg": {}}, "egg"), ["egg"])
        self.assertEqual(all_inside(PIE, "egg"), ["egg"])
        self.assertEqual(all_inside(PIE, "flour"), ["flour"])

    def test_parts_of_parts_sorted_and_each_once(self):
        self.assertEqual(all_inside(PIE, "butter"), ["butter", "milk"])
        self.assertEqual(all_inside(PIE, "dough"), ["butter", "dough", "flour", "milk"])
        self.assertEqual(all_inside(PIE, "pie"), ["apple", "butter", "dough", "filling", "flour", "milk", "pie"])

    def test_rings(self):
        self.assertEqual(all_inside(RINGS, "self"), ["self"])
        self.assertEqual(all_inside(RINGS, "e"), ["e", "f"])
        self.assertEqual(all_inside(RINGS, "d"), ["a", "b", "c", "d", "e", "f"])
        self.assertEqual(all_inside(RINGS, "a"), ["a", "b", "c", "d", "e", "f"])

    def test_eighty_names_in_a_row(self):
        names = row_names()
        self.assertEqual(all_inside(long_row(), names[0]), names)
        self.assertEqual(all_inside(long_row(), names[40]), names[40:])
        self.assertEqual(all_inside(long_row(), names[79]), [names[79]])

    def test_eighty_names_all_in_each_other(self):
        names = row_names()
        parts = {name: {part: True for part in names} for name in names}
        self.assertEqual(all_inside(parts, names[33]), names)

    def test_chance_ones(self):
        chance = random.Random(9)
        for turn in range(300):
            names, parts = some_parts(chance)
            for good in names:
                self.assertEqual(all_inside(parts, good), by_words_alone(parts, good))

    def test_what_is_handed_in_stays_and_what_is_told_is_new(self):
        parts = copy.deepcopy(PIE)
        told = all_inside(parts, "pie")
        self.assertIs(type(told), list)
        told.clear()
        self.assertEqual(parts, PIE)
        self.assertEqual(list(parts), list(PIE))
        self.assertEqual(len(all_inside(parts, "pie")), 7)


class ChainDown(unittest.TestCase):
    def assert_way(self, parts, good, goals):
        way = chain_down(parts, good, goals)
        self.assertIs(type(way), list)
        self.assertEqual(way[0], good)
        self.assertIn(way[-1], goals)
        self.assertEqual(len(way), len(set(way)))
        for place in range(1, len(way)):
            self.assertIn(way[place], parts[way[place - 1]])
        if good in goals:
            self.assertEqual(way, [good])

    def test_the_good_itself_a_goal(self):
        self.assertEqual(chain_down({}, "egg", ["egg"]), ["egg"])
        self.assertEqual(chain_down(PIE, "pie", ["pie"]), ["pie"])
        self.assertEqual(chain_down(PIE, "pie", ["milk", "dough", "pie", "flour"]), ["pie"])
        self.assertEqual(chain_down(RINGS, "self", ["self"]), ["self"])
        self.assertEqual(chain_down(RINGS, "c", ["d", "a", "c"]), ["c"])

    def test_one_way_alone(self):
        self.assertEqual(chain_down(PIE, "pie", ["flour"]), ["pie", "dough", "flour"])
        self.assertEqual(chain_down(PIE, "filling", ["milk"]), ["filling", "butter", "milk"])
        self.assertEqual(chain_down(PIE, "pie", ["apple", "egg"]), ["pie", "filling", "apple"])

    def test_several_ways_and_goals(self):
        for goals in (["milk"], ["butter"], ["milk", "apple"], ["egg", "flour", "apple", "flour"], ["butter", "milk"]):
            self.assert_way(PIE, "pie", goals)

    def test_no_way(self):
        self.assertIsNone(chain_down({}, "egg", ["ham"]))
        self.assertIsNone(chain_down(PIE, "dough", ["apple", "pie", "egg"]))
        self.assertIsNone(chain_down(PIE, "egg", ["pie", "milk"]))
        self.assertIsNone(chain_down(RINGS, "e", ["a", "b", "self"]))

    def test_no_goals(self):
        self.assertIsNone(chain_down({}, "egg", []))
        self.assertIsNone(chain_down(PIE, "pie", []))
        self.assertIsNone(chain_down(RINGS, "a", []))

    def test_rings_amid_the_way(self):
        self.assertEqual(chain_down(RINGS, "d", ["f"]), ["d", "c", "a", "b", "e", "f"])
        self.assertEqual(chain_down(RINGS, "b", ["a", "egg"]), ["b", "c", "a"])
        self.assertEqual(chain_down(RINGS, "e", ["f"]), ["e", "f"])

    def test_eighty_names_in_a_row(self):
        names = row_names()
        self.assertEqual(chain_down(long_row(), names[0], [names[79]]), names)
        self.assertEqual(chain_down(long_row(), names[5], [names[0], names[6]]), names[5:7])
        self.assertIsNone(chain_down(long_row(), names[5], names[:5]))

    def test_chance_ones(self):
        chance = random.Random(10)
        for turn in range(300):
            names, parts = some_parts(chance)
            goals = [chance.choice("abcdefgh") for many in range(chance.randrange(0, 4))]
            for good in names:
                if set(goals) & set(by_words_alone(parts, good)):
                    self.assert_way(parts, good, goals)
                else:
                    self.assertIsNone(chain_down(parts, good, goals))

    def test_what_is_handed_in_stays_and_what_is_told_is_new(self):
        parts = copy.deepcopy(PIE)
        goals = ["milk", "flour"]
        told = chain_down(parts, "dough", goals)
        told.clear()
        self.assertEqual(parts, PIE)
        self.assertEqual(goals, ["milk", "flour"])
        self.assertGreater(len(chain_down(parts, "dough", goals)), 1)
        only = ["dough"]
        told = chain_down(parts, "dough", only)
        told.append("egg")
        self.assertEqual(only, ["dough"])


if __name__ == "__main__":
    unittest.main()
