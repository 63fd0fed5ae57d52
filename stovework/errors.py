"""The refusals. Each stands straight under StoveError, so that none is taken for another one."""


class StoveError(ValueError):
    pass


class NoNumber(StoveError):
    pass


class NoAmount(StoveError):
    pass


class NoName(StoveError):
    pass


class NoStand(StoveError):
    pass


class TooMany(StoveError):
    pass


class NoNet(StoveError):
    pass


class NoPlan(StoveError):
    pass


class EmptyHeap(StoveError):
    pass


class InRing(StoveError):
    def __init__(self, ring):
        self.ring = ring


class NoStandIn(StoveError):
    def __init__(self, good):
        self.good = good


class NoPack(StoveError):
    def __init__(self, good):
        self.good = good


class NoRow(StoveError):
    def __init__(self, at):
        self.at = at


class NoStep(StoveError):
    def __init__(self, at):
        self.at = at


class Twice(StoveError):
    def __init__(self, at):
        self.at = at


class TooFew(StoveError):
    def __init__(self, tool):
        self.tool = tool


class NoDish(StoveError):
    def __init__(self, dish):
        self.dish = dish
