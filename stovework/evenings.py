"""An evening: dishes, tuples (recipe, plates), served in courses, as one net."""

from stovework.dishes import MOST_TASKS, links_of, plates_of, tasks_of
from stovework.errors import TooFew, TooMany
from stovework.nets import MOST_ARCS, MOST_MOMENTS, Net


class Evening:
    def __init__(self, tools, courses, size=None, spread=0, pause=0):
        if len(courses) > MOST_MOMENTS:
            raise TooMany("an evening has at most eight courses")
        placed = placed_dishes(courses, size)
        self.labels = labels_of(placed)
        if len(self.labels) > MOST_TASKS:
            raise TooMany("an evening has at most twenty-four tasks")
        tasks = []
        for each in placed:
            tasks.extend([task[2] for task in each.tasks])
        refuse_too_few(tools, tasks)
        arcs = arcs_of_dishes(placed)
        arcs.extend(arcs_of_servings(placed, len(tasks), len(courses), spread, pause))
        if len(arcs) > MOST_ARCS:
            raise TooMany("an evening has at most six hundred arcs")
        self.net = Net(tools, tasks, arcs, pairs_of_dishes(placed), len(courses))


# A dish at its place: the course, the place in the course, and the number of its first task in the evening.
class PlacedDish:
    def __init__(self, course, place, first, recipe, tasks):
        self.course = course
        self.place = place
        self.first = first
        self.recipe = recipe
        self.tasks = tasks


def placed_dishes(courses, size):
    placed = []
    first = 0
    for course, dishes in enumerate(courses):
        for place, dish in enumerate(dishes):
            tasks = tasks_of(dish[0], dish[1], size)
            placed.append(PlacedDish(course, place, first, dish[0], tasks))
            first += len(tasks)
    return placed


def labels_of(placed):
    labels = []
    for each in placed:
        for step, turn, ways in each.tasks:
            labels.append((each.course, each.place, each.recipe.steps[step].name, turn))
    return labels


def refuse_too_few(tools, tasks):
    for ways in tasks:
        for way in ways:
            for tool, many, heat in way[2]:
                if many > tools.get(tool, 0):
                    raise TooFew(tool)


def arcs_of_dishes(placed):
    arcs = []
    for each in placed:
        for p, q, lag in links_of(each.recipe, each.tasks)[0]:
            arcs.append((2 * each.first + p, 2 * each.first + q, lag))
    return arcs


def pairs_of_dishes(placed):
    pairs = []
    for each in placed:
        for one, other in links_of(each.recipe, each.tasks)[1]:
            pairs.append((each.first + one, each.first + other))
    return pairs


def arcs_of_servings(placed, many, courses, spread, pause):
    arcs = []
    for course in range(courses):
        serving = 2 * many + course
        for plate in plates_in(placed, course):
            end = 2 * plate + 1
            arcs.append((end, serving, 0))
            arcs.append((serving, end, -spread))
        if course < courses - 1:
            arcs.append((serving, serving + 1, pause))
    return arcs


# The plates of the course's dishes, by their numbers in the evening.
def plates_in(placed, course):
    plates = []
    for each in placed:
        if each.course == course:
            plates.extend([each.first + place for place in plates_of(each.recipe, each.tasks)])
    return plates
