"""A net: what a plan is held against. A way is a tuple (least, most, uses), a use a tuple (tool, many, heat)."""

from stovework.dishes import MOST_TASKS
from stovework.errors import NoNet
from stovework.names import is_name

MOST_TOOLS = 12
MOST_PIECES = 8
MOST_WAYS = 2
MOST_MOMENTS = 8
MOST_ARCS = 600
MOST_APART = 300
# The greatest length, heat and lag.
GREATEST = 1000000000


class Net:
    def __init__(self, tools, tasks, arcs, apart=None, moments=0):
        self.tools = dict(tools)
        self.tasks = [copy_of_task(ways) for ways in tasks]
        self.arcs = list(arcs)
        self.apart = [] if apart is None else list(apart)
        self.moments = moments
        refuse_wrong_tools(self.tools)
        refuse_wrong_tasks(self.tasks, self.tools)
        if not 0 <= moments <= MOST_MOMENTS:
            raise NoNet("a net has 0 to 8 moments")
        refuse_wrong_arcs(self.arcs, points_of(self))
        refuse_wrong_pairs(self.apart, len(self.tasks))


def points_of(net):
    return 2 * len(net.tasks) + net.moments


# Whether all of these whole numbers, perhaps none, are points of the net.
def are_points(net, some):
    for point in some:
        if not 0 <= point < points_of(net):
            return False
    return True


# The use of the tool in this way, None where the way doesn't use it.
def use_in(way, tool):
    for use in way[2]:
        if use[0] == tool:
            return use
    return None


def copy_of_task(ways):
    return [(way[0], way[1], list(way[2])) for way in ways]


def refuse_wrong_tools(tools):
    if len(tools) > MOST_TOOLS:
        raise NoNet("a net has at most 12 tools")
    for tool, many in tools.items():
        if not is_name(tool):
            raise NoNet("a tool is a name")
        if not 1 <= many <= MOST_PIECES:
            raise NoNet("there are 1 to 8 of a tool")


def refuse_wrong_tasks(tasks, tools):
    if len(tasks) > MOST_TASKS:
        raise NoNet("a net has at most 24 tasks")
    for ways in tasks:
        if not 1 <= len(ways) <= MOST_WAYS:
            raise NoNet("a task has one or two ways")
        for way in ways:
            if not 1 <= way[0] <= way[1] <= GREATEST:
                raise NoNet("a way's least is from 1 on, its most from its least to 10 ** 9")
            refuse_wrong_uses(way[2], tools)


def refuse_wrong_uses(uses, tools):
    if len(set([use[0] for use in uses])) != len(uses):
        raise NoNet("a way uses a tool once")
    for use in uses:
        if use[0] not in tools:
            raise NoNet("a way uses tools of the net")
        if not 1 <= use[1] <= tools[use[0]]:
            raise NoNet("a way uses from 1 to all of a tool")
        if not 0 <= use[2] <= GREATEST:
            raise NoNet("a heat is from 0 to 10 ** 9")


def refuse_wrong_arcs(arcs, points):
    if len(arcs) > MOST_ARCS:
        raise NoNet("a net has at most 600 arcs")
    for arc in arcs:
        if not (0 <= arc[0] < points and 0 <= arc[1] < points):
            raise NoNet("an arc is between points of the net")
        if abs(arc[2]) > GREATEST:
            raise NoNet("a lag is from -10 ** 9 to 10 ** 9")


def refuse_wrong_pairs(pairs, many):
    if len(pairs) > MOST_APART:
        raise NoNet("at most 300 pairs are apart")
    for pair in pairs:
        if not (0 <= pair[0] < many and 0 <= pair[1] < many):
            raise NoNet("tasks of the net are apart")
        if pair[0] == pair[1]:
            raise NoNet("unlike tasks are apart")
