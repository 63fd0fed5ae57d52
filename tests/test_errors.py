import unittest

from stovework import errors
from stovework.errors import StoveError

OF_A_TEXT = (
    errors.NoNumber,
    errors.NoAmount,
    errors.NoName,
    errors.NoStand,
    errors.TooMany,
    errors.NoNet,
    errors.NoPlan,
    errors.EmptyHeap,
)

WITH_A_FIELD = (
    (errors.InRing, "ring", ["dough", "yeast"]),
    (errors.NoStandIn, "good", "butter"),
    (errors.NoPack, "good", "flour"),
    (errors.NoRow, "at", 0),
    (errors.NoStep, "at", 7),
    (errors.Twice, "at", 12),
    (errors.TooFew, "tool", "oven"),
    (errors.NoDish, "dish", "soup"),
)

ALL = OF_A_TEXT + tuple(kind for kind, field, thing in WITH_A_FIELD)


class Refusals(unittest.TestCase):
    def test_there_are_sixteen(self):
        self.assertEqual(len(set(ALL)), 16)

    def test_the_base_is_a_value_error(self):
        self.assertTrue(issubclass(StoveError, ValueError))

    def test_each_is_a_stove_error_and_a_value_error(self):
        for kind in ALL:
            with self.subTest(kind=kind.__name__):
                self.assertTrue(issubclass(kind, StoveError))
                self.assertTrue(issubclass(kind, ValueError))
                self.assertNotEqual(kind, StoveError)

    def test_none_stands_under_another_one(self):
        for kind in ALL:
            for other in ALL:
                if kind is not other:
                    with self.subTest(kind=kind.__name__, other=other.__name__):
                        self.assertFalse(issubclass(kind, other))


class Made(unittest.TestCase):
    def test_of_a_text_and_caught_as_a_stove_error(self):
        for kind in OF_A_TEXT:
            with self.subTest(kind=kind.__name__):
                with self.assertRaises(StoveError) as caught:
                    raise kind("some words")
                self.assertIs(type(caught.exception), kind)
                self.assertEqual(str(caught.exception), "some words")

    def test_of_its_field_and_caught_as_a_stove_error(self):
        for kind, field, thing in WITH_A_FIELD:
            with self.subTest(kind=kind.__name__):
                with self.assertRaises(StoveError) as caught:
                    raise kind(thing)
                self.assertIs(type(caught.exception), kind)
                self.assertIs(getattr(caught.exception, field), thing)

    def test_a_field_is_wanted_and_no_second_thing(self):
        for kind, field, thing in WITH_A_FIELD:
            with self.subTest(kind=kind.__name__):
                self.assertRaises(TypeError, kind)
                self.assertRaises(TypeError, kind, thing, thing)

    def test_the_ring_is_not_changed(self):
        ring = ["dough", "yeast"]
        errors.InRing(ring)
        self.assertEqual(ring, ["dough", "yeast"])

    def test_two_of_a_kind_keep_each_its_own(self):
        first = errors.NoRow(1)
        second = errors.NoRow(2)
        self.assertEqual((first.at, second.at), (1, 2))


if __name__ == "__main__":
    unittest.main()
