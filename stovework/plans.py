"""Plans, held against a net. A plan is a tuple (runs, times), a run a tuple (begin, end, way)."""

from stovework.errors import NoPlan
from stovework.nets import use_in


def is_plan(net, plan):
    if len(plan[0]) != len(net.tasks) or len(plan[1]) != net.moments:
        return False
    for run, ways in zip(plan[0], net.tasks):
        if not 0 <= run[2] < len(ways):
            return False
    return True


def time_of(plan, point):
    moment = point - 2 * len(plan[0])
    if moment >= 0:
        return plan[1][moment]
    return plan[0][point // 2][point % 2]


def runs_meet(one, other):
    return one[0] < other[1] and other[0] < one[1]


def goes_on(run, turn):
    return run[0] <= turn < run[1]


# The use of the tool in the way of the task's run, None where it doesn't use it.
def use_of(net, plan, task, tool):
    return use_in(net.tasks[task][plan[0][task][2]], tool)


def breaches(net, plan):
    if not is_plan(net, plan):
        raise NoPlan("this is no plan of the net")
    told = breaches_of_turns(net, plan)
    told.extend([("moment", k) for k in range(net.moments) if plan[1][k] < 0])
    told.extend(breaches_of_arcs(net, plan))
    told.extend(breaches_of_apart(net, plan))
    for tool in sorted(net.tools):
        told.extend(breaches_of_tool(net, plan, tool))
    for tool in sorted(net.tools):
        told.extend(breaches_of_heat(net, plan, tool))
    return told


def breaches_of_turns(net, plan):
    told = []
    for i, run in enumerate(plan[0]):
        way = net.tasks[i][run[2]]
        if run[0] < 0 or not way[0] <= run[1] - run[0] <= way[1]:
            told.append(("turns", i))
    return told


def breaches_of_arcs(net, plan):
    told = []
    for k, arc in enumerate(net.arcs):
        if time_of(plan, arc[1]) - time_of(plan, arc[0]) < arc[2]:
            told.append(("arc", k))
    return told


def breaches_of_apart(net, plan):
    told = []
    for k, pair in enumerate(net.apart):
        if runs_meet(plan[0][pair[0]], plan[0][pair[1]]):
            told.append(("apart", k))
    return told


def breaches_of_tool(net, plan, tool):
    begins = sorted(set([run[0] for run in plan[0]]))
    many = net.tools[tool]
    return [("tool", tool, turn) for turn in begins if in_use(net, plan, tool, turn) > many]


# How many of the tool are in use at this turn.
def in_use(net, plan, tool, turn):
    total = 0
    for i, run in enumerate(plan[0]):
        use = use_of(net, plan, i, tool)
        if use is not None and goes_on(run, turn):
            total += use[1]
    return total


def breaches_of_heat(net, plan, tool):
    told = []
    uses = [use_of(net, plan, i, tool) for i in range(len(plan[0]))]
    users = [i for i in range(len(uses)) if uses[i] is not None]
    for place, i in enumerate(users):
        for j in users[place + 1:]:
            if uses[i][2] != uses[j][2] and runs_meet(plan[0][i], plan[0][j]):
                told.append(("heat", tool, i, j))
    return told


def plan_fits(net, plan):
    return breaches(net, plan) == []


def length_of(plan):
    points = 2 * len(plan[0]) + len(plan[1])
    return max([0] + [time_of(plan, point) for point in range(points)])
