"""How a case that is looked at is parted, and the looks at the cases that come of it."""

from stovework.crowds import least_crowds
from stovework.guesses import guess
from stovework.looks import look_behind, reach_along, spans_of
from stovework.papers import parted


# A tuple (row, looks), the looks at the cases that come of the row. To choose it no more than so many looks are had,
# unless one row alone has more. Asked is of a look without a ring whose guess is no plan: so there is such a row.
def best_branch(measures, look, most):
    best = None
    for row in hopeful_rows(measures, look, most):
        looks = [look_behind(measures, look, case) for case in parted(measures.net, look.case, row)]
        worth = worth_of(look, looks)
        if best is None or worth > best[0]:
            best = (worth, row, looks)
    return (best[1], best[2])


# The least of the new bounds counts first: it is that of the whole. A ring counts as a bound that is far away.
def worth_of(look, looks):
    far = 2 * look.bound + 10
    bounds = [far if each.bound is None else min(far, each.bound) for each in looks]
    return (min(bounds), sum(bounds))


def hopeful_rows(measures, look, most):
    found = least_crowds(measures, look.case[0], spans_of(measures, look))
    if found == []:
        return rows_of_ways(measures, look)
    hopeful = sorted(found, key=lambda tasks: split_hope(look, tasks), reverse=True)
    many = len(found[0]) * (len(found[0]) - 1)
    return [("split", tasks) for tasks in hopeful[:max(1, most // many)]]


# What can be told of the new bounds without a look.
def split_hope(look, tasks):
    bounds = []
    for i in tasks:
        for j in tasks:
            if i != j:
                bounds.append(max(look.bound, reach_along(look, 2 * i + 1, 2 * j, 0)))
    return (min(bounds), sum(bounds))


# Tasks that crowd by the guess alone are not all picked, and a task that suits none of its ways is not picked either.
def rows_of_ways(measures, look):
    tasks = guess(measures, look)[1]
    ways = measures.net.tasks
    return [("ways", i) for i in tasks if look.case[0][i] is None and len(ways[i]) == 2]
