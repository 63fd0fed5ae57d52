"""Probes: they go down into a case for a plan alone. What they part doesn't come into a paper."""

from stovework.branches import hopeful_rows
from stovework.looks import arcs_between, look_behind, reach_along
from stovework.papers import parted

# How many cases a probe parts. As long as there is no plan it is let down to where each two tasks may have an order.
LONG = 400
SHORT = 60


def send_probe(find, look):
    most = LONG if find.plan is None else SHORT
    pile = []
    used = 0
    while used < most:
        if find.could_gain(look.bound):
            used += 1
            pile.extend(cases_below(find.measures, look))
        if pile == []:
            return
        upper = pile.pop()
        look = look_behind(find.measures, upper[0], upper[1])
        find.take_plan(look)


# Tuples (look, case) of the cases that come of this one, the likeliest last: it lies uppermost then. A case is likely
# where its new arcs make no chain long, and put off little.
def cases_below(measures, look):
    row = hopeful_rows(measures, look, 1)[0]
    times = look.heads.times
    rated = []
    for place, case in enumerate(parted(measures.net, look.case, row)):
        arcs = arcs_between(measures.net, look.case, case)
        reach = max([reach_along(look, p, q, lag) for p, q, lag in arcs])
        delay = max([times[p] + lag - times[q] for p, q, lag in arcs])
        rated.append((max(look.bound, reach), delay, place, case))
    return [(look, each[3]) for each in sorted(rated, reverse=True)]
