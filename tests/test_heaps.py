import random
import unittest

from stovework.errors import EmptyHeap, StoveError
from stovework.heaps import Heap


def emptied(heap):
    told = []
    while heap.many() > 0:
        told.append(heap.take_least())
    return told


class Heaps(unittest.TestCase):
    def assert_empty(self, heap):
        self.assertEqual(heap.many(), 0)
        for _ in range(2):
            with self.assertRaises(StoveError) as caught:
                heap.take_least()
            self.assertIs(type(caught.exception), EmptyHeap)
        self.assertEqual(heap.many(), 0)

    def assert_emptied_in_order(self, heap, things):
        self.assertEqual(heap.many(), len(things))
        for left, thing in enumerate(sorted(things)):
            self.assertEqual(heap.take_least(), thing)
            self.assertEqual(heap.many(), len(things) - left - 1)
        self.assert_empty(heap)

    def assert_both_ways(self, things):
        """Made of the list, and told the things one by one."""
        self.assert_emptied_in_order(Heap(list(things)), things)
        heap = Heap()
        for many, thing in enumerate(things):
            self.assertEqual(heap.many(), many)
            self.assertIsNone(heap.add(thing))
        self.assert_emptied_in_order(heap, things)

    def test_empty(self):
        self.assert_empty(Heap())
        self.assert_empty(Heap(None))
        self.assert_empty(Heap([]))

    def test_one_and_two(self):
        for things in ([5], [0], [-1], [1, 2], [2, 1], [3, 3]):
            self.assert_both_ways(things)

    def test_rising_falling_and_mixed(self):
        chance = random.Random(30)
        for many in (3, 4, 7, 8, 9, 100, 300, 513):
            rising = list(range(-many // 2, many // 2))
            mixed = list(rising)
            chance.shuffle(mixed)
            for things in (rising, rising[::-1], mixed):
                self.assert_both_ways(things)

    def test_equal_things_as_often_as_they_were_put_in(self):
        self.assert_both_ways([4] * 50)
        self.assert_both_ways([2, 1, 2, 1, 2, 1, 0])
        self.assert_both_ways([(1, 2), (0, 9), (1, 2), (0, 9), (1, 1)])

    def test_tuples(self):
        chance = random.Random(31)
        for width in (1, 2, 3, 5):
            for many in (1, 10, 400):
                self.assert_both_ways([tuple(chance.randint(-3, 3) for _ in range(width)) for _ in range(many)])
        self.assert_both_ways([(), (), ()])

    def test_great_numbers(self):
        self.assert_both_ways([10**60, -(10**59), 10**60 - 1, 0, -(10**59) - 1])

    def test_every_order_of_few(self):
        chance = random.Random(32)
        for _ in range(1000):
            self.assert_both_ways([chance.randint(0, 4) for _ in range(chance.randint(0, 9))])

    def test_added_and_taken_by_turns(self):
        chance = random.Random(33)
        for _ in range(60):
            heap, kept = Heap(), []
            for _ in range(200):
                if kept and chance.random() < 0.45:
                    kept.sort()
                    self.assertEqual(heap.take_least(), kept.pop(0))
                else:
                    thing = (chance.randint(0, 20), chance.randint(0, 3))
                    heap.add(thing)
                    kept.append(thing)
                self.assertEqual(heap.many(), len(kept))
            self.assert_emptied_in_order(heap, kept)

    def test_filled_again_when_it_was_empty(self):
        heap = Heap([2, 1])
        self.assertEqual(emptied(heap), [1, 2])
        heap.add(4)
        heap.add(3)
        self.assert_emptied_in_order(heap, [3, 4])
        heap.add(7)
        self.assert_emptied_in_order(heap, [7])

    def test_the_list_stays_and_changed_later_changes_nothing(self):
        things = [3, 1, 2]
        heap = Heap(things)
        self.assertEqual(things, [3, 1, 2])
        heap.add(0)
        self.assertEqual(heap.take_least(), 0)
        self.assertEqual(heap.take_least(), 1)
        self.assertEqual(things, [3, 1, 2])
        things.append(-5)
        things[0] = -6
        self.assertEqual(emptied(heap), [2, 3])

    def test_heaps_share_nothing(self):
        first, second = Heap(), Heap()
        first.add(1)
        self.assertEqual(second.many(), 0)
        self.assertEqual(Heap().many(), 0)


if __name__ == "__main__":
    unittest.main()
