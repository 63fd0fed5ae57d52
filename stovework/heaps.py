"""A heap: the least of its things is at hand."""

from stovework.errors import EmptyHeap


# The things lie as a tree in a list: beneath the one at place k lie those at 2 k + 1 and 2 k + 2, neither less than it.
class Heap:
    def __init__(self, rows=None):
        self.things = []
        if rows is not None:
            for thing in rows:
                self.add(thing)

    def add(self, thing):
        self.things.append(thing)
        self.rise(len(self.things) - 1)

    def take_least(self):
        if self.things == []:
            raise EmptyHeap("there is nothing in the heap")
        least = self.things[0]
        last = self.things.pop()
        if self.things != []:
            self.things[0] = last
            self.sink(0)
        return least

    def many(self):
        return len(self.things)

    def rise(self, place):
        above = (place - 1) // 2
        while place > 0 and self.things[place] < self.things[above]:
            self.swap(place, above)
            place = above
            above = (place - 1) // 2

    def sink(self, place):
        below = self.lesser_below(place)
        while below is not None and self.things[below] < self.things[place]:
            self.swap(place, below)
            place = below
            below = self.lesser_below(place)

    # The place of the lesser of both things beneath, None where nothing lies there.
    def lesser_below(self, place):
        left = 2 * place + 1
        right = left + 1
        if left >= len(self.things):
            return None
        if right < len(self.things) and self.things[right] < self.things[left]:
            return right
        return left

    def swap(self, one, other):
        thing = self.things[one]
        self.things[one] = self.things[other]
        self.things[other] = thing
