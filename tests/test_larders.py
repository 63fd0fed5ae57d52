import random
import unittest

from stovework.errors import InRing, NoName, NoStand, NoStandIn, StoveError, TooMany
from stovework.larders import Larder
from stovework.parts import all_inside
from stovework.stands import ways_out

NO_NAMES = (
    "",
    "Egg",
    "egg ",
    "egg\n",
    "egg1",
    "thirteensigns",
    "\u00e9",
    b"egg",
    0,
    1.5,
    True,
    None,
    [],
    ["egg"],
    ("egg",),
    {},
    {"egg": True},
    {"egg"},
    object(),
)

NO_RATIOS = (
    (0, 1),
    (-1, 1),
    (-3, 4),
    (2, 4),
    (2, 2),
    (0, 2),
    (1, 0),
    (1, -1),
    (-1, -1),
    (True, 1),
    (1, True),
    (1.0, 1),
    (1,),
    (1, 2, 3),
    (),
    [1, 2],
    {1: 2},
    "1/2",
    "",
    b"12",
    0,
    1,
    0.5,
    True,
    False,
    object(),
)


def short_name(number):
    return "n" + chr(ord("a") + number // 26) + chr(ord("a") + number % 26)


def names_to(many):
    return [short_name(number) for number in range(many)]


def larder_with(many):
    """A larder that knows so many names, by bars that are taken away again."""
    larder = Larder()
    for name in names_to(many):
        larder.bar(name)
        larder.allow(name)
    return larder


def all_told(larder, names):
    """All that a larder tells of these names, to be held against what it tells later."""
    told = [larder.known()]
    for name in names:
        told.append((larder.held(name), larder.barred(name)))
        try:
            told.append(larder.stand_in(name))
        except NoStandIn as refusal:
            told.append(("none", refusal.good))
    return told


def full_larder():
    larder = Larder()
    larder.part("pie", "dough")
    larder.part("dough", "butter")
    larder.part("butter", "milk")
    larder.stand("butter", "oil", (3, 4))
    larder.stand("pie", "tart")
    larder.stand("tart", "cake", (1, 2))
    larder.bar("milk")
    larder.bar("oil")
    return larder


FULL_NAMES = ("pie", "dough", "butter", "milk", "oil", "tart", "cake", "egg", "ham")


class Checks(unittest.TestCase):
    def assert_refused_and_unchanged(self, kind, larder, method, things, names):
        before = all_told(larder, names)
        with self.assertRaises(StoveError) as caught:
            getattr(larder, method)(*things)
        self.assertIs(type(caught.exception), kind)
        self.assertEqual(all_told(larder, names), before)
        return caught.exception


class Told(Checks):
    def test_nothing_told(self):
        larder = Larder()
        self.assertEqual(larder.known(), [])
        self.assertEqual(larder.held("egg"), ["egg"])
        self.assertIsNone(larder.barred("egg"))
        self.assertEqual(larder.stand_in("egg"), (["egg"], (1, 1)))
        self.assertEqual(larder.known(), [])

    def test_telling_tells_nothing(self):
        larder = Larder()
        self.assertIsNone(larder.part("pie", "dough"))
        self.assertIsNone(larder.part("pie", "dough"))
        self.assertIsNone(larder.stand("butter", "oil"))
        self.assertIsNone(larder.bar("milk"))
        self.assertIsNone(larder.bar("milk"))
        self.assertIsNone(larder.allow("milk"))
        self.assertIsNone(larder.allow("milk"))

    def test_parts(self):
        larder = full_larder()
        self.assertEqual(larder.held("pie"), ["butter", "dough", "milk", "pie"])
        self.assertEqual(larder.held("butter"), ["butter", "milk"])
        self.assertEqual(larder.held("milk"), ["milk"])
        self.assertEqual(larder.held("egg"), ["egg"])

    def test_a_stand_in_is_no_part(self):
        larder = full_larder()
        self.assertEqual(larder.held("tart"), ["tart"])
        self.assertIsNone(larder.barred("tart"))

    def test_a_part_told_again(self):
        larder = full_larder()
        before = all_told(larder, FULL_NAMES)
        larder.part("pie", "dough")
        larder.part("butter", "milk")
        self.assertEqual(all_told(larder, FULL_NAMES), before)

    def test_a_second_part_and_one_part_of_two(self):
        larder = full_larder()
        larder.part("pie", "milk")
        larder.part("pie", "apple")
        larder.part("cake", "dough")
        self.assertEqual(larder.held("pie"), ["apple", "butter", "dough", "milk", "pie"])
        self.assertEqual(larder.held("cake"), ["butter", "cake", "dough", "milk"])

    def test_a_bar_told_again_is_taken_away_at_once(self):
        larder = full_larder()
        before = all_told(larder, FULL_NAMES)
        larder.bar("milk")
        self.assertEqual(all_told(larder, FULL_NAMES), before)
        larder.allow("milk")
        self.assertIsNone(larder.barred("milk"))
        self.assertIsNone(larder.barred("pie"))

    def test_allowed_what_is_not_barred(self):
        larder = full_larder()
        before = all_told(larder, FULL_NAMES)
        for name in ("butter", "pie", "egg", "tart"):
            larder.allow(name)
        self.assertEqual(all_told(larder, FULL_NAMES), before)

    def test_barred_again_behind_allow(self):
        larder = Larder()
        larder.bar("milk")
        larder.allow("milk")
        larder.bar("milk")
        self.assertEqual(larder.barred("milk"), ["milk"])

    def test_a_ratio_left_out_or_none(self):
        larder = Larder()
        larder.stand("butter", "oil")
        larder.stand("egg", "soy", None)
        larder.bar("butter")
        larder.bar("egg")
        self.assertEqual(larder.stand_in("butter"), (["butter", "oil"], (1, 1)))
        self.assertEqual(larder.stand_in("egg"), (["egg", "soy"], (1, 1)))

    def test_both_for_each_other(self):
        larder = Larder()
        larder.stand("butter", "oil", (3, 4))
        larder.stand("oil", "butter", (4, 3))
        larder.bar("butter")
        self.assertEqual(larder.stand_in("butter"), (["butter", "oil"], (3, 4)))
        larder.allow("butter")
        larder.bar("oil")
        self.assertEqual(larder.stand_in("oil"), (["oil", "butter"], (4, 3)))

    def test_a_good_may_stand_for_what_it_is_in(self):
        larder = Larder()
        larder.part("pie", "dough")
        larder.stand("pie", "dough", (2, 1))
        larder.stand("dough", "pie", (1, 2))
        larder.bar("pie")
        self.assertEqual(larder.stand_in("pie"), (["pie", "dough"], (2, 1)))

    def test_known(self):
        larder = full_larder()
        self.assertEqual(larder.known(), ["butter", "cake", "dough", "milk", "oil", "pie", "tart"])
        larder.allow("milk")
        larder.allow("egg")
        larder.held("ham")
        larder.barred("ham")
        larder.stand_in("ham")
        self.assertEqual(larder.known(), ["butter", "cake", "dough", "milk", "oil", "pie", "tart"])
        larder.bar("egg")
        larder.allow("egg")
        self.assertEqual(larder.known(), ["butter", "cake", "dough", "egg", "milk", "oil", "pie", "tart"])


class Barred(Checks):
    def test_itself(self):
        larder = full_larder()
        self.assertEqual(larder.barred("milk"), ["milk"])
        self.assertEqual(larder.barred("oil"), ["oil"])

    def test_by_parts_of_parts(self):
        larder = full_larder()
        self.assertEqual(larder.barred("butter"), ["butter", "milk"])
        self.assertEqual(larder.barred("pie"), ["pie", "dough", "butter", "milk"])

    def test_itself_and_a_part(self):
        larder = full_larder()
        larder.bar("butter")
        self.assertEqual(larder.barred("butter"), ["butter"])
        self.assertIn(larder.barred("pie"), (["pie", "dough", "butter"], ["pie", "dough", "butter", "milk"]))

    def test_not(self):
        larder = full_larder()
        for name in ("tart", "cake", "egg"):
            self.assertIsNone(larder.barred(name))
        larder.allow("milk")
        self.assertIsNone(larder.barred("pie"))

    def test_a_part_told_behind_the_bar(self):
        larder = Larder()
        larder.bar("nut")
        larder.part("cake", "cream")
        self.assertIsNone(larder.barred("cake"))
        larder.part("cream", "nut")
        self.assertEqual(larder.barred("cake"), ["cake", "cream", "nut"])

    def test_what_a_part_is_in_is_not_barred_with_it(self):
        larder = Larder()
        larder.part("cake", "cream")
        larder.bar("cake")
        self.assertEqual(larder.barred("cake"), ["cake"])
        self.assertIsNone(larder.barred("cream"))


class StandsIn(Checks):
    def test_a_good_that_is_not_barred(self):
        larder = full_larder()
        self.assertEqual(larder.stand_in("tart"), (["tart"], (1, 1)))
        larder.allow("milk")
        self.assertEqual(larder.stand_in("pie"), (["pie"], (1, 1)))

    def test_a_good_barred_by_a_part_of_a_part(self):
        self.assertEqual(full_larder().stand_in("pie"), (["pie", "tart"], (1, 1)))

    def test_behind_a_name_amid_the_chain_that_is_barred(self):
        larder = full_larder()
        larder.bar("tart")
        self.assertEqual(larder.stand_in("pie"), (["pie", "tart", "cake"], (1, 2)))

    def test_behind_a_name_amid_the_chain_that_has_something_barred(self):
        larder = full_larder()
        larder.part("tart", "milk")
        self.assertEqual(larder.stand_in("pie"), (["pie", "tart", "cake"], (1, 2)))

    def test_the_first_that_is_not_barred(self):
        larder = Larder()
        for other in ("d", "c", "b"):
            larder.stand("a", other, (ord(other), 1))
        larder.bar("a")
        self.assertEqual(larder.stand_in("a"), (["a", "b"], (98, 1)))
        larder.bar("b")
        self.assertEqual(larder.stand_in("a"), (["a", "c"], (99, 1)))
        larder.part("c", "b")
        self.assertEqual(larder.stand_in("a"), (["a", "d"], (100, 1)))
        larder.part("d", "c")
        with self.assertRaises(NoStandIn):
            larder.stand_in("a")

    def test_none(self):
        larder = full_larder()
        for good in ("butter", "milk", "oil", "dough"):
            refusal = self.assert_refused_and_unchanged(NoStandIn, larder, "stand_in", (good,), FULL_NAMES)
            self.assertEqual(refusal.good, good)

    def test_none_in_a_ring_of_stand_ins(self):
        larder = Larder()
        for good, other in (("a", "b"), ("b", "c"), ("c", "a")):
            larder.stand(good, other)
        for name in ("a", "b", "c"):
            larder.bar(name)
        for name in ("a", "b", "c"):
            with self.assertRaises(NoStandIn) as caught:
                larder.stand_in(name)
            self.assertEqual(caught.exception.good, name)
        larder.allow("a")
        self.assertEqual(larder.stand_in("b"), (["b", "c", "a"], (1, 1)))

    def test_eighty_names(self):
        larder = Larder()
        names = names_to(80)
        for k in range(79):
            larder.stand(names[k], names[k + 1], (k + 2, k + 1))
            larder.bar(names[k])
        self.assertEqual(larder.stand_in(names[0]), (names, (80, 1)))
        self.assertEqual(larder.known(), names)

    def test_chance_ones(self):
        chance = random.Random(12)
        for turn in range(300):
            larder = Larder()
            parts, stands, bars = {}, {}, []
            for told in range(chance.randrange(0, 20)):
                good, other = chance.choice("abcdef"), chance.choice("abcdef")
                if good < other and chance.randrange(2):
                    larder.part(good, other)
                    parts.setdefault(good, {})[other] = True
                elif good != other and other not in stands.get(good, {}):
                    ratio = chance.choice(((1, 2), (2, 3), (5, 1)))
                    larder.stand(good, other, ratio)
                    stands.setdefault(good, {})[other] = ratio
            for name in "abcdef":
                if chance.randrange(2):
                    larder.bar(name)
                    bars.append(name)
            for good in "abcdef":
                self.assert_right(larder, good, parts, stands, bars)

    def assert_right(self, larder, good, parts, stands, bars):
        self.assertEqual(larder.held(good), all_inside(parts, good))
        self.assertEqual(larder.barred(good) is not None, bool(set(all_inside(parts, good)) & set(bars)))
        free = [pair for pair in ways_out(stands, good) if not set(all_inside(parts, pair[0][-1])) & set(bars)]
        if free:
            self.assertEqual(larder.stand_in(good), free[0])
        else:
            self.assertRaises(NoStandIn, larder.stand_in, good)


class NoNames(Checks):
    def test_each_method_that_is_handed_one(self):
        larder = full_larder()
        for thing in NO_NAMES:
            for method in ("bar", "allow", "held", "barred", "stand_in"):
                with self.subTest(method=method, thing=thing):
                    self.assert_refused_and_unchanged(NoName, larder, method, (thing,), FULL_NAMES)

    def test_each_method_that_is_handed_two(self):
        larder = full_larder()
        for thing in NO_NAMES:
            for method in ("part", "stand"):
                for things in ((thing, "pie"), ("pie", thing), (thing, thing), ("ham", thing), (thing, "ham")):
                    with self.subTest(method=method, things=things):
                        self.assert_refused_and_unchanged(NoName, larder, method, things, FULL_NAMES)

    def test_ahead_of_every_other_refusal(self):
        larder = larder_with(80)
        names = names_to(80)
        for thing in NO_NAMES:
            with self.subTest(thing=thing):
                self.assert_refused_and_unchanged(NoName, larder, "part", (thing, thing), names)
                self.assert_refused_and_unchanged(NoName, larder, "part", ("fresh", thing), names)
                self.assert_refused_and_unchanged(NoName, larder, "stand", (thing, thing, (0, 1)), names)
                self.assert_refused_and_unchanged(NoName, larder, "stand", ("fresh", thing, "no ratio"), names)
                self.assert_refused_and_unchanged(NoName, larder, "bar", (thing,), names)


class Rings(Checks):
    def assert_ring(self, told, good, other):
        """Tells the parts to a larder, then the last one that makes the ring, and holds the ring to the words."""
        larder = Larder()
        for pair in told:
            larder.part(pair[0], pair[1])
        names = sorted({name for pair in told for name in pair} | {good, other})
        refusal = self.assert_refused_and_unchanged(InRing, larder, "part", (good, other), names)
        ring = refusal.ring
        self.assertIs(type(ring), list)
        self.assertEqual(ring[0], good)
        if good == other:
            self.assertEqual(ring, [good])
            return ring
        self.assertEqual(ring[1], other)
        for place in range(2, len(ring)):
            self.assertIn((ring[place - 1], ring[place]), told)
        self.assertIn((ring[-1], good), told)
        return ring

    def test_the_good_as_its_own_part(self):
        self.assert_ring([], "dough", "dough")
        self.assert_ring([("pie", "dough"), ("dough", "flour")], "dough", "dough")

    def test_of_two(self):
        self.assertEqual(self.assert_ring([("pie", "dough")], "dough", "pie"), ["dough", "pie"])

    def test_of_three_and_more(self):
        told = [("a", "b"), ("b", "c"), ("c", "d"), ("b", "x"), ("x", "y")]
        self.assertEqual(self.assert_ring(told, "c", "a"), ["c", "a", "b"])
        self.assertEqual(self.assert_ring(told, "d", "a"), ["d", "a", "b", "c"])
        self.assertEqual(self.assert_ring(told, "d", "b"), ["d", "b", "c"])
        self.assertEqual(self.assert_ring(told, "y", "a"), ["y", "a", "b", "x"])

    def test_one_of_several(self):
        self.assert_ring([("a", "b"), ("a", "c"), ("b", "d"), ("c", "d"), ("d", "e"), ("a", "e")], "e", "a")

    def test_of_eighty(self):
        names = names_to(80)
        told = [(names[k], names[k + 1]) for k in range(79)]
        self.assertEqual(self.assert_ring(told, names[79], names[0]), [names[79]] + names[:79])

    def test_no_ring_where_two_ways_lead_down(self):
        larder = Larder()
        for pair in (("a", "b"), ("b", "c"), ("a", "c")):
            larder.part(pair[0], pair[1])
        self.assertEqual(larder.held("a"), ["a", "b", "c"])

    def test_a_told_ring_is_the_askers_own(self):
        larder = Larder()
        larder.part("a", "b")
        with self.assertRaises(InRing) as caught:
            larder.part("b", "a")
        caught.exception.ring.clear()
        self.assertEqual(larder.held("a"), ["a", "b"])

    def test_ahead_of_too_many(self):
        larder = larder_with(80)
        refusal = self.assert_refused_and_unchanged(InRing, larder, "part", ("fresh", "fresh"), names_to(80))
        self.assertEqual(refusal.ring, ["fresh"])


class NoStands(Checks):
    def test_the_good_for_itself(self):
        larder = full_larder()
        for good in ("butter", "egg"):
            self.assert_refused_and_unchanged(NoStand, larder, "stand", (good, good), FULL_NAMES)
            self.assert_refused_and_unchanged(NoStand, larder, "stand", (good, good, (2, 1)), FULL_NAMES)

    def test_a_pair_told_before(self):
        larder = full_larder()
        for things in (("butter", "oil"), ("butter", "oil", (3, 4)), ("butter", "oil", (1, 2)), ("pie", "tart", (2, 1))):
            self.assert_refused_and_unchanged(NoStand, larder, "stand", things, FULL_NAMES)
        larder.allow("oil")
        self.assertEqual(larder.stand_in("butter"), (["butter", "oil"], (3, 4)))

    def test_no_fraction_above_nought(self):
        larder = full_larder()
        for ratio in NO_RATIOS:
            with self.subTest(ratio=ratio):
                self.assert_refused_and_unchanged(NoStand, larder, "stand", ("butter", "lard", ratio), FULL_NAMES)
                self.assert_refused_and_unchanged(NoStand, larder, "stand", ("egg", "ham", ratio), FULL_NAMES)
        larder.stand("butter", "lard", (1, 10 ** 59))
        self.assertEqual(larder.stand_in("butter"), (["butter", "lard"], (1, 10 ** 59)))

    def test_ahead_of_too_many(self):
        larder = larder_with(80)
        names = names_to(80)
        self.assert_refused_and_unchanged(NoStand, larder, "stand", ("fresh", "fresh"), names)
        self.assert_refused_and_unchanged(NoStand, larder, "stand", ("fresh", "new", (0, 1)), names)
        self.assert_refused_and_unchanged(NoStand, larder, "stand", (names[0], "new", (2, 4)), names)


class TooManyNames(Checks):
    def assert_too_many(self, larder, method, things):
        self.assert_refused_and_unchanged(TooMany, larder, method, things, names_to(80) + ["fresh", "new"])

    def test_the_eighty_first_by_each(self):
        larder = larder_with(80)
        known = short_name(3)
        self.assert_too_many(larder, "bar", ("fresh",))
        for method in ("part", "stand"):
            self.assert_too_many(larder, method, (known, "fresh"))
            self.assert_too_many(larder, method, ("fresh", known))
            self.assert_too_many(larder, method, ("fresh", "new"))
        self.assert_too_many(larder, "stand", (known, "fresh", (1, 2)))

    def test_two_new_ones_where_there_is_room_for_one(self):
        for method in ("part", "stand"):
            larder = larder_with(79)
            self.assert_too_many(larder, method, ("fresh", "new"))
            getattr(larder, method)("fresh", short_name(0))
            self.assertEqual(larder.known(), ["fresh"] + names_to(79))

    def test_the_eightieth_by_each(self):
        for method, things in (("bar", ("z",)), ("part", ("z", "naa")), ("part", ("naa", "z")), ("stand", ("naa", "z"))):
            larder = larder_with(79)
            getattr(larder, method)(*things)
            self.assertEqual(larder.known(), names_to(79) + ["z"])
        for method in ("part", "stand"):
            larder = larder_with(78)
            getattr(larder, method)("y", "z")
            self.assertEqual(larder.known(), names_to(78) + ["y", "z"])

    def test_names_told_by_parts_and_stand_ins_count(self):
        larder = Larder()
        names = names_to(80)
        for k in range(0, 40, 2):
            larder.part(names[k], names[k + 1])
        for k in range(40, 80, 2):
            larder.stand(names[k], names[k + 1])
        self.assertEqual(larder.known(), names)
        self.assert_too_many(larder, "bar", ("fresh",))

    def test_known_names_are_told_on(self):
        larder = larder_with(80)
        larder.part(short_name(0), short_name(1))
        larder.part(short_name(0), short_name(1))
        larder.stand(short_name(2), short_name(3))
        larder.bar(short_name(1))
        larder.bar(short_name(1))
        self.assertEqual(larder.barred(short_name(0)), [short_name(0), short_name(1)])
        self.assertEqual(larder.known(), names_to(80))

    def test_not_by_allow_nor_by_asking(self):
        larder = larder_with(80)
        self.assertIsNone(larder.allow("fresh"))
        self.assertEqual(larder.held("fresh"), ["fresh"])
        self.assertIsNone(larder.barred("fresh"))
        self.assertEqual(larder.stand_in("fresh"), (["fresh"], (1, 1)))
        self.assertEqual(larder.known(), names_to(80))

    def test_a_name_stays_known_behind_allow(self):
        larder = larder_with(79)
        larder.bar("fresh")
        larder.allow("fresh")
        self.assert_too_many(larder, "bar", ("new",))

    def test_what_was_refused_makes_no_name_known(self):
        larder = larder_with(79)
        self.assertRaises(InRing, larder.part, "fresh", "fresh")
        self.assertRaises(NoStand, larder.stand, "fresh", "new", (0, 1))
        self.assertRaises(NoName, larder.part, "fresh", "No")
        self.assertRaises(TooMany, larder.part, "fresh", "new")
        self.assertEqual(larder.known(), names_to(79))
        larder.bar("other")
        self.assertEqual(len(larder.known()), 80)


class Owned(Checks):
    def test_two_larders_know_nothing_of_each_other(self):
        one = full_larder()
        other = Larder()
        self.assertEqual(other.known(), [])
        self.assertEqual(other.held("pie"), ["pie"])
        self.assertIsNone(other.barred("milk"))
        self.assertEqual(other.stand_in("butter"), (["butter"], (1, 1)))
        before = all_told(one, FULL_NAMES)
        other.part("milk", "pie")
        other.stand("butter", "oil", (7, 1))
        other.bar("cake")
        other.allow("milk")
        self.assertEqual(all_told(one, FULL_NAMES), before)

    def test_every_list_told_is_the_askers_own(self):
        larder = full_larder()
        before = all_told(larder, FULL_NAMES)
        for told in (larder.known(), larder.held("pie"), larder.barred("pie"), larder.stand_in("pie")[0]):
            self.assertIs(type(told), list)
            told.append("egg")
            told[0] = "ham"
        self.assertEqual(all_told(larder, FULL_NAMES), before)

    def test_kinds(self):
        told = full_larder().stand_in("pie")
        self.assertEqual([type(told), type(told[0]), type(told[1])], [tuple, list, tuple])


if __name__ == "__main__":
    unittest.main()
