"""Crowds: tasks of a plan whose runs meet though they clash."""

from stovework.clashes import clashes
from stovework.plans import goes_on


def crowd(net, plan):
    runs = plan[0]
    case = ([run[2] for run in runs], [])
    # Runs that meet two by two all go on at the begin of the last of them: no other turn need be looked at.
    for run in runs:
        some = [i for i in range(len(runs)) if goes_on(runs[i], run[0])]
        if clashes(net, case, some):
            return narrowed(net, case, some)
    return None


# What clashes goes on to clash with more tasks: so a task that can't be left out once can't be left out later.
def narrowed(net, case, some):
    kept = list(some)
    for i in some:
        rest = [j for j in kept if j != i]
        if clashes(net, case, rest):
            kept = rest
    return kept
