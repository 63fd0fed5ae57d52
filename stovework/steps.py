"""The steps of a recipe: Cut, Warm and Rest, under one base. A way is a tuple (least, most, uses)."""

from stovework.ratios import fraction, product, quotient, round_up


class Step:
    def __init__(self, name, least, most, uses=None, second=None):
        self.name = name
        self.least = least
        self.most = most
        self.uses = [] if uses is None else list(uses)
        self.second = None if second is None else (second[0], second[1], list(second[2]))

    def word(self):
        return "step"

    def span(self, least, most, factor):
        return (least, most)

    def rounds(self, factor, size):
        return 1

    def grown(self, factor):
        ways = [self.grown_way(self.least, self.most, self.uses, factor)]
        if self.second is not None:
            ways.append(self.grown_way(self.second[0], self.second[1], self.second[2], factor))
        return ways

    def grown_way(self, least, most, uses, factor):
        lengths = self.span(least, most, factor)
        return (lengths[0], lengths[1], sorted(uses))


class Cut(Step):
    def word(self):
        return "cut"

    def span(self, least, most, factor):
        return (grown_length(least, factor), grown_length(most, factor))


class Warm(Step):
    def __init__(self, name, least, most, fill, uses=None, second=None):
        Step.__init__(self, name, least, most, uses, second)
        self.fill = fill

    def word(self):
        return "warm"

    def rounds(self, factor, size):
        return round_up(quotient(product(self.fill, factor), size))


class Rest(Step):
    def word(self):
        return "rest"


def grown_length(length, factor):
    return round_up(product(fraction(length), factor))
