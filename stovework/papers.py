"""Papers: lists of rows that part the cases of a net and shut them, so as to show that no plan is shorter."""

from stovework.cases import arcs_of, start_case
from stovework.chains import chain_total, ring_total
from stovework.clashes import clashes
from stovework.nets import are_points
from stovework.stretches import stretch_total

# The words of the rows that part a case.
INNER = ("split", "ways")


def parted(net, case, row):
    if row[0] == "split":
        return cases_of_split(net, case, row[1])
    if row[0] == "ways":
        return cases_of_ways(net, case, row[1])
    return None


def cases_of_split(net, case, tasks):
    if not clashes(net, case, tasks) or has_order_of(case, tasks):
        return None
    cases = []
    for one in tasks:
        for other in tasks:
            if one != other:
                cases.append((list(case[0]), case[1] + [(one, other)]))
    return cases


def has_order_of(case, tasks):
    for i, j in case[1]:
        if i in tasks and j in tasks:
            return True
    return False


def cases_of_ways(net, case, i):
    if not 0 <= i < len(net.tasks):
        return None
    if len(net.tasks[i]) != 2 or case[0][i] is not None:
        return None
    return [with_pick(case, i, 0), with_pick(case, i, 1)]


def with_pick(case, i, way):
    picks = list(case[0])
    picks[i] = way
    return (picks, list(case[1]))


def bound_of(net, case, row):
    if row[0] == "full":
        return stretch_total(net, case, row[1], row[2], row[3])
    if row[0] == "chain" and are_points(net, row[1]):
        return chain_total(arcs_of(net, case), row[1])
    return None


def shuts(net, case, low, row):
    if row[0] == "ring":
        return shuts_by_ring(net, case, row[1])
    if low is None:
        return False
    bound = bound_of(net, case, row)
    return bound is not None and bound >= low


def shuts_by_ring(net, case, ring):
    if not are_points(net, ring):
        return False
    total = ring_total(arcs_of(net, case), ring)
    return total is not None and total > 0


def lets_by(net, low, paper):
    pile = [start_case(net)]
    for row in paper:
        if len(pile) == 0:
            return False
        case = pile.pop()
        if row[0] in INNER:
            cases = parted(net, case, row)
            if cases is None:
                return False
            # The end of the list is the top of the pile: the first of the cases comes last.
            pile.extend(list(reversed(cases)))
        elif not shuts(net, case, low, row):
            return False
    return len(pile) == 0


def inner_rows(paper):
    return len([row for row in paper if row[0] in INNER])
