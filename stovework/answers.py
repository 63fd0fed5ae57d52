"""The rows of a desk's answers."""

from stovework.amounts import amount_text
from stovework.notes import numbers_text
from stovework.plans import length_of
from stovework.recipes import row_of
from stovework.rosters import roster


def given_text(choices):
    return "\n".join([row_of([good, chain[-1], amount_text(ratio)]) for good, chain, ratio in choices])


def bought_text(bought):
    return "\n".join([row_of([name, count, amount_text(left)]) for name, count, left in bought])


# Courses are tuples (number, dishes); sought is what came of seeking the evening through.
def plan_text(evening, courses, sought):
    plan = sought[0]
    rows = [bound_row(plan, sought[1])]
    if plan is not None:
        rows.extend(task_rows(evening, courses, plan))
        for course, time in zip(courses, plan[1]):
            rows.append(row_of(["served", course[0], time]))
    return "\n".join(rows)


def bound_row(plan, low):
    if low is None:
        return "none"
    if plan is None:
        return row_of(["from", low])
    length = length_of(plan)
    if length == low:
        return row_of(["shortest", length])
    return row_of(["between", low, length])


def task_rows(evening, courses, plan):
    dealt = roster(evening.net, plan)
    rows = []
    for i, label in enumerate(evening.labels):
        run = plan[0][i]
        course = courses[label[0]]
        dish = course[1][label[1]][0]
        things = [course[0], label[1], dish.name, label[2], label[3], run[2], run[0], run[1]]
        for use in sorted(evening.net.tasks[i][run[2]][2]):
            things.append(":".join([use[0], numbers_text(dealt[use[0]][i])]))
        rows.append(row_of(things))
    return rows
