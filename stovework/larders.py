"""The larder: what has what for a part, what may stand for what, and what is barred."""

from stovework.errors import InRing, NoName, NoStand, NoStandIn, TooMany
from stovework.names import is_name
from stovework.parts import all_inside, chain_down
from stovework.ratios import fraction, is_fraction
from stovework.stands import ways_out

MOST_NAMES = 80


def refuse_no_names(things):
    for thing in things:
        if not is_name(thing):
            raise NoName("a name is one to twelve small letters")


class Larder:
    def __init__(self):
        self.parts = {}
        self.stands = {}
        self.bars = {}
        self.names = {}

    def part(self, good, other):
        refuse_no_names([good, other])
        back = chain_down(self.parts, other, [good])
        if back is not None:
            # The way back ends with the good, which the ring has as its first name already.
            raise InRing([good] + back[:-1])
        self.learn([good, other])
        inside = self.parts.setdefault(good, {})
        inside[other] = True

    def stand(self, good, other, ratio=None):
        refuse_no_names([good, other])
        if ratio is None:
            ratio = fraction(1)
        if good == other:
            raise NoStand("nothing stands for itself")
        if other in self.stands.get(good, {}):
            raise NoStand("this stand-in was told before")
        if not is_fraction(ratio) or ratio[0] <= 0:
            raise NoStand("a ratio is a fraction above 0")
        self.learn([good, other])
        others = self.stands.setdefault(good, {})
        others[other] = ratio

    def bar(self, good):
        refuse_no_names([good])
        self.learn([good])
        self.bars[good] = True

    def allow(self, good):
        refuse_no_names([good])
        self.bars.pop(good, None)

    def known(self):
        return sorted(self.names)

    def held(self, good):
        refuse_no_names([good])
        return all_inside(self.parts, good)

    def barred(self, good):
        refuse_no_names([good])
        return chain_down(self.parts, good, list(self.bars))

    def stand_in(self, good):
        refuse_no_names([good])
        for pair in ways_out(self.stands, good):
            if self.barred(pair[0][-1]) is None:
                return pair
        raise NoStandIn(good)

    # All of the names become known, or none where they would be too many.
    def learn(self, told):
        fresh = [name for name in told if name not in self.names]
        if len(self.names) + len(fresh) > MOST_NAMES:
            raise TooMany("a larder knows at most eighty names")
        for name in fresh:
            self.names[name] = True
