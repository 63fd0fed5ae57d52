"""Cases of a net: tuples (picks, orders). A pick is a way's number or None; an order (i, j) asks j to wait for i."""

from stovework.nets import copy_of_task, use_in


def start_case(net):
    return ([None for ways in net.tasks], [])


def open_ways(net, case, i):
    ways = copy_of_task(net.tasks[i])
    pick = case[0][i]
    return ways if pick is None else [ways[pick]]


def obeys(case, plan):
    runs = plan[0]
    for pick, run in zip(case[0], runs):
        if pick is not None and run[2] != pick:
            return False
    for i, j in case[1]:
        if runs[i][1] > runs[j][0]:
            return False
    return True


def arcs_of(net, case):
    arcs = list(net.arcs)
    for i in range(len(net.tasks)):
        ways = open_ways(net, case, i)
        arcs.append((2 * i, 2 * i + 1, min([way[0] for way in ways])))
        arcs.append((2 * i + 1, 2 * i, -max([way[1] for way in ways])))
    for i, j in case[1]:
        arcs.append((2 * i + 1, 2 * j, 0))
    return arcs


def want_of(net, case, i, tool):
    return min([many_in(way, tool) for way in open_ways(net, case, i)])


def work_of(net, case, i, tool):
    return min([way[0] * many_in(way, tool) for way in open_ways(net, case, i)])


def many_in(way, tool):
    use = use_in(way, tool)
    return 0 if use is None else use[1]


def unlike_heats(net, case, i, j):
    for one in open_ways(net, case, i):
        for other in open_ways(net, case, j):
            if not heats_differ(one, other):
                return False
    return True


# Whether there is a tool that both ways use, at heats that are not equal.
def heats_differ(one, other):
    for tool, many, heat in one[2]:
        use = use_in(other, tool)
        if use is not None and use[2] != heat:
            return True
    return False
