"""What the seeker asks of a net's tasks again and again, kept by their picks: a way's number, or None."""

from stovework.cases import start_case, want_of, work_of
from stovework.clashes import clashes


# Wants and works are, for each tool, a list with a dict from picks to numbers for each task. The pairs are kept as
# they are asked for: most of them never are.
class Measures:
    def __init__(self, net):
        self.net = net
        self.wants = {}
        self.works = {}
        self.pairs = {}
        for tool in sorted(net.tools):
            self.wants[tool] = [wants_by_pick(net, i, tool) for i in range(len(net.tasks))]
            self.works[tool] = [works_by_pick(net, i, tool) for i in range(len(net.tasks))]

    # Whether these two tasks clash by themselves, with these picks.
    def hinders(self, picks, i, j):
        key = (i, picks[i], j, picks[j])
        if key not in self.pairs:
            self.pairs[key] = clashes(self.net, (picks, []), [i, j])
        return self.pairs[key]


def wants_by_pick(net, i, tool):
    told = {}
    for pick in picks_of(net, i):
        told[pick] = want_of(net, case_of_pick(net, i, pick), i, tool)
    return told


def works_by_pick(net, i, tool):
    told = {}
    for pick in picks_of(net, i):
        told[pick] = work_of(net, case_of_pick(net, i, pick), i, tool)
    return told


def picks_of(net, i):
    return [None] + list(range(len(net.tasks[i])))


def case_of_pick(net, i, pick):
    case = start_case(net)
    case[0][i] = pick
    return case
