"""The roster: which pieces of the tools each task of a plan has."""

from stovework.errors import NoPlan
from stovework.plans import goes_on, plan_fits, use_of


def roster(net, plan):
    if not plan_fits(net, plan):
        raise NoPlan("this plan does not fit the net")
    order = sorted([(run[0], i) for i, run in enumerate(plan[0])])
    dealt = {}
    for tool in net.tools:
        dealt[tool] = deal(net, plan, tool, order)
    return dealt


def deal(net, plan, tool, order):
    pieces = [[] for run in plan[0]]
    for begin, i in order:
        use = use_of(net, plan, i, tool)
        if use is not None:
            pieces[i] = least_free(pieces_had(plan, pieces, begin), use[1])
    return pieces


# Tasks that are not dealt yet have no pieces.
def pieces_had(plan, pieces, turn):
    had = []
    for run, some in zip(plan[0], pieces):
        if goes_on(run, turn):
            had.extend(some)
    return had


def least_free(had, many):
    free = []
    number = 0
    while len(free) < many:
        if number not in had:
            free.append(number)
        number += 1
    return free
