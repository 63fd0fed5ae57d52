"""Dishes: a recipe made for a number of plates. A task at place k begins at the point 2 k and ends at 2 k + 1."""

from stovework.errors import TooMany
from stovework.ratios import fraction

MOST_TASKS = 24


def factor_of(recipe, plates):
    return fraction(plates, recipe.plates)


def tasks_of(recipe, plates, size=None):
    factor = factor_of(recipe, plates)
    pan = fraction(1) if size is None else size
    many = [step.rounds(factor, pan) for step in recipe.steps]
    # Counted ahead of all else: there may be more rounds than could ever be listed.
    if sum(many) > MOST_TASKS:
        raise TooMany("a dish has at most twenty-four tasks")
    tasks = []
    for place, step in enumerate(recipe.steps):
        for turn in range(many[place]):
            # Grown anew for each round, so that no two tasks have a list in common.
            tasks.append((place, turn, step.grown(factor)))
    return tasks


def links_of(recipe, tasks):
    arcs = []
    pairs = []
    for link in recipe.links:
        for one in places_of(tasks, link[1]):
            for other in places_of(tasks, link[2]):
                if link[0] == "apart":
                    pairs.append((min(one, other), max(one, other)))
                else:
                    arcs.extend(arcs_of_link(link, one, other))
    return (sorted(set(arcs)), sorted(set(pairs)))


def arcs_of_link(link, one, other):
    begin = 2 * one
    end = 2 * other + 1
    if link[0] == "within":
        return [(end, begin, 0), (begin, end, -link[3])]
    return [(end, begin, 0)]


def places_of(tasks, step):
    return [place for place in range(len(tasks)) if tasks[place][0] == step]


def plates_of(recipe, tasks):
    waited_for = [link[2] for link in recipe.links if link[0] != "apart"]
    return [place for place in range(len(tasks)) if tasks[place][0] not in waited_for]
