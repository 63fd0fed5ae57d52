"""Stretches of a tool: tasks that share it, with a chain to the begin of each and a chain from its end."""

from stovework.cases import arcs_of, work_of
from stovework.chains import earliest_times, greatest_lags, tail_chains, total_by
from stovework.nets import are_points, points_of


def stretch_total(net, case, tool, fronts, backs):
    tasks = tasks_between(net, fronts, backs)
    if tool not in net.tools or tasks is None:
        return None
    lags = greatest_lags(arcs_of(net, case))
    heads = [total_by(lags, chain) for chain in fronts]
    tails = [total_by(lags, chain) for chain in backs]
    if None in heads or None in tails:
        return None
    work = sum([work_of(net, case, i, tool) for i in tasks])
    return min(heads) + min(tails) + turns_for(work, net.tools[tool])


# The tasks to which the fronts lead and from which the backs go on, None where they are none such or not unlike.
def tasks_between(net, fronts, backs):
    if len(fronts) != len(backs) or len(fronts) == 0:
        return None
    tasks = [task_between(net, front, back) for front, back in zip(fronts, backs)]
    if None in tasks or len(set(tasks)) != len(tasks):
        return None
    return tasks


def task_between(net, front, back):
    if len(front) == 0 or len(back) == 0:
        return None
    if not are_points(net, front) or not are_points(net, back):
        return None
    i = front[-1] // 2
    if i >= len(net.tasks) or front[-1] != 2 * i or back[0] != 2 * i + 1:
        return None
    return i


# Python's // goes down: both signs turn it round, so that a turn that is begun counts whole.
def turns_for(work, many):
    return -(-work // many)


def best_stretch(net, case):
    arcs = arcs_of(net, case)
    heads = earliest_times(points_of(net), arcs)
    tails = tail_chains(points_of(net), arcs)
    if heads[0] is None:
        return None
    best = None
    for tool in sorted(net.tools):
        works = [work_of(net, case, i, tool) for i in range(len(net.tasks))]
        users = users_of(works, heads[0], tails[0])
        fullest = fullest_of(users, net.tools[tool])
        if fullest is not None and (best is None or fullest[0] > best[0]):
            best = (fullest[0], tool, fullest[1])
    if best is None:
        return None
    fronts = [heads[1][2 * i] for i in best[2]]
    backs = [tails[1][2 * i + 1] for i in best[2]]
    return (best[0], best[1], fronts, backs)


# The tasks with work, as tuples (sum of the tail, time of the begin, work, task), the greatest tails first.
def users_of(works, times, sums):
    users = []
    for i, work in enumerate(works):
        if work > 0:
            users.append((sums[2 * i + 1], times[2 * i], work, i))
    return sorted(users, reverse=True)


# A tuple (total, tasks) of the greatest total, None where there are no users.
# A stretch loses nothing by all users whose begins and tails are no less than the least of its own: so it is enough
# to look, for each floor of the begins, at the first one, two, three .. of the users that keep to it.
def fullest_of(users, many):
    best = None
    for floor in sorted(set([user[1] for user in users])):
        work = 0
        for user in users:
            if user[1] >= floor:
                work += user[2]
                total = floor + user[0] + turns_for(work, many)
                if best is None or total > best[0]:
                    best = (total, floor, user)
    if best is None:
        return None
    # The users lie falling: those up to the last of the stretch are those that are not less.
    return (best[0], [user[3] for user in users if user[1] >= best[1] and user >= best[2]])
