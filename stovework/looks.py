"""Looks at cases of a net: how a case's arcs move its points, and the row that shuts it best."""

from stovework.cases import arcs_of, start_case
from stovework.chains import chain_to
from stovework.nets import points_of
from stovework.stretches import fullest_of, users_of
from stovework.tides import first_tide, risen


# The heads are the earliest times, the tails the greatest totals of chains from the points on. The bound is that of
# the row in this case; None where the row is a ring.
class Look:
    def __init__(self, case, heads, tails):
        self.case = case
        self.heads = heads
        self.tails = tails
        self.row = ("ring", heads.ring)
        self.bound = None


def first_look(measures):
    net = measures.net
    case = start_case(net)
    arcs = arcs_of(net, case)
    heads = first_tide(points_of(net), arcs)
    tails = first_tide(points_of(net), [(q, p, lag) for p, q, lag in arcs])
    return looked_at(measures, case, heads, tails)


# The look at a case that comes of parting the one that this look is at.
def look_behind(measures, look, case):
    heads = look.heads
    tails = look.tails
    for p, q, lag in arcs_between(measures.net, look.case, case):
        heads = risen(heads, p, q, lag)
        tails = risen(tails, q, p, lag)
    return looked_at(measures, case, heads, tails)


# What the later case asks for beyond the one that it comes of. The arcs of a task without a pick may stay beside
# those of its pick: they ask for no more.
def arcs_between(net, before, later):
    arcs = [(2 * i + 1, 2 * j, 0) for i, j in later[1][len(before[1]):]]
    for i, pick in enumerate(later[0]):
        if pick != before[0][i]:
            way = net.tasks[i][pick]
            arcs.append((2 * i, 2 * i + 1, way[0]))
            arcs.append((2 * i + 1, 2 * i, -way[1]))
    return arcs


def looked_at(measures, case, heads, tails):
    look = Look(case, heads, tails)
    if heads.ring is None:
        put_longest_chain(look)
        put_fullest_stretch(measures, look)
    return look


def put_longest_chain(look):
    times = look.heads.times
    look.bound = max(times, default=0)
    chain = [] if times == [] else chain_to(look.heads.ahead, times.index(look.bound))
    look.row = ("chain", chain)


# Only where a stretch shows more than the chain.
def put_fullest_stretch(measures, look):
    fullest = None
    for tool in measures.works:
        works = [told[pick] for told, pick in zip(measures.works[tool], look.case[0])]
        users = users_of(works, look.heads.times, look.tails.times)
        found = fullest_of(users, measures.net.tools[tool])
        if found is not None and found[0] > look.bound:
            look.bound = found[0]
            fullest = (tool, found[1])
    if fullest is not None:
        fronts = [chain_to(look.heads.ahead, 2 * i) for i in fullest[1]]
        backs = [list(reversed(chain_to(look.tails.ahead, 2 * i + 1))) for i in fullest[1]]
        look.row = ("full", fullest[0], fronts, backs)


# The greatest total of the chains along one more arc.
def reach_along(look, p, q, lag):
    return look.heads.times[p] + lag + look.tails.times[q]


# The begins and ends of the tasks by the earliest times.
def spans_of(measures, look):
    times = look.heads.times
    return [(times[2 * i], times[2 * i + 1]) for i in range(len(measures.net.tasks))]
