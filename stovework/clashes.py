"""Clashes: tasks that in a case cannot all go on at one time."""

from stovework.cases import unlike_heats, want_of


def clashes(net, case, some):
    if not are_unlike_tasks(net, some) or len(some) < 2:
        return False
    return two_apart(net, some) or two_at_unlike_heats(net, case, some) or too_much_wanted(net, case, some)


def are_unlike_tasks(net, some):
    for i in some:
        if not 0 <= i < len(net.tasks):
            return False
    return len(set(some)) == len(some)


def two_apart(net, some):
    for one, other in net.apart:
        if one in some and other in some:
            return True
    return False


def two_at_unlike_heats(net, case, some):
    for place, one in enumerate(some):
        for other in some[place + 1:]:
            if unlike_heats(net, case, one, other):
                return True
    return False


def too_much_wanted(net, case, some):
    for tool, many in net.tools.items():
        if sum([want_of(net, case, i, tool) for i in some]) > many:
            return True
    return False
