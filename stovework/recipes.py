"""A recipe, and its text."""

from stovework.amounts import amount_text
from stovework.steps import Warm


class Recipe:
    def __init__(self, name, plates, takes, steps, links):
        self.name = name
        self.plates = plates
        self.takes = list(takes)
        self.steps = list(steps)
        self.links = list(links)


def recipe_text(recipe):
    rows = [row_of(["dish", recipe.name, recipe.plates])]
    for take in recipe.takes:
        rows.append(row_of(["take", take[0], amount_text(take[1])]))
    for step in recipe.steps:
        rows.extend(rows_of_step(step))
    for link in recipe.links:
        rows.append(row_of_link(link, recipe.steps))
    return "\n".join(rows)


def row_of(things):
    return " ".join([str(thing) for thing in things])


def rows_of_step(step):
    things = [step.word(), step.name, step.least, step.most]
    if isinstance(step, Warm):
        things.append(amount_text(step.fill))
    rows = [row_of(things)]
    rows.extend(rows_of_uses("with", step.name, step.uses))
    if step.second is not None:
        rows.append(row_of(["or", step.name, step.second[0], step.second[1]]))
        rows.extend(rows_of_uses("orwith", step.name, step.second[2]))
    return rows


def rows_of_uses(word, name, uses):
    return [row_of([word, name, use[0], use[1], use[2]]) for use in uses]


def row_of_link(link, steps):
    things = [link[0], steps[link[1]].name, steps[link[2]].name]
    if link[0] == "within":
        things.append(link[3])
    return row_of(things)
