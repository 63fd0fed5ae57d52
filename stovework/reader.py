"""Reads a recipe from its text."""

from stovework.errors import NoRow, NoStep, TooMany, Twice
from stovework.forms import values_by
from stovework.recipes import Recipe
from stovework.rows import words_of
from stovework.steps import Cut, Rest, Warm

MOST_TAKES = 12
MOST_STEPS = 12
MOST_USES = 12
MOST_LINKS = 24

# What stands behind each row's word.
FORMS = {
    "dish": ("name", "plates"),
    "take": ("name", "amount"),
    "cut": ("name", "length", "length"),
    "rest": ("name", "length", "length"),
    "warm": ("name", "length", "length", "amount"),
    "or": ("name", "length", "length"),
    "with": ("name", "name", "many", "heat"),
    "orwith": ("name", "name", "many", "heat"),
    "after": ("name", "name"),
    "within": ("name", "name", "turns"),
    "apart": ("name", "name"),
}

STEP_WORDS = ("cut", "rest", "warm")
USE_WORDS = ("with", "orwith")
LINK_WORDS = ("after", "within", "apart")


def read_recipe(text):
    if not isinstance(text, str):
        raise NoRow(0)
    rows = text.split("\n")
    recipe = recipe_begun(values_of(rows[0]))
    for at, row in enumerate(rows[1:], start=1):
        values = values_of(row)
        if values is None or values[0] == "dish":
            raise NoRow(at)
        put_row(recipe, at, values)
    return recipe


# The recipe that comes of the first row alone. It and its steps grow row by row: nobody else has them yet.
def recipe_begun(values):
    if values is None or values[0] != "dish":
        raise NoRow(0)
    return Recipe(values[1], values[2], [], [], [])


# The row's word and what stands behind it, names, numbers and amounts; None where it is no row of a recipe.
def values_of(row):
    words = words_of(row)
    if words is None or words[0] not in FORMS:
        return None
    values = values_by(FORMS[words[0]], words)
    if values is None or not agree(values):
        return None
    return values


# What no value tells by itself: a most length is not below its least one, no step is linked with itself.
def agree(values):
    if values[0] == "or" or values[0] in STEP_WORDS:
        return values[2] <= values[3]
    if values[0] in LINK_WORDS:
        return values[1] != values[2]
    return True


def put_row(recipe, at, values):
    if values[0] == "take":
        put_take(recipe, at, values)
    elif values[0] in STEP_WORDS:
        put_step(recipe, at, values)
    elif values[0] == "or":
        put_second(recipe, at, values)
    elif values[0] in USE_WORDS:
        put_use(recipe, at, values)
    else:
        put_link(recipe, at, values)


def put_take(recipe, at, values):
    refuse_twice(values[1], [take[0] for take in recipe.takes], at)
    refuse_full(recipe.takes, MOST_TAKES)
    recipe.takes.append((values[1], values[2]))


def put_step(recipe, at, values):
    refuse_twice(values[1], [step.name for step in recipe.steps], at)
    refuse_full(recipe.steps, MOST_STEPS)
    recipe.steps.append(step_of(values))


def step_of(values):
    if values[0] == "cut":
        return Cut(values[1], values[2], values[3])
    if values[0] == "warm":
        return Warm(values[1], values[2], values[3], values[4])
    return Rest(values[1], values[2], values[3])


def put_second(recipe, at, values):
    step = recipe.steps[place_of(recipe, values[1], at)]
    if step.second is not None:
        raise Twice(at)
    step.second = (values[2], values[3], [])


def put_use(recipe, at, values):
    step = recipe.steps[place_of(recipe, values[1], at)]
    uses = step.uses
    if values[0] == "orwith":
        if step.second is None:
            raise NoStep(at)
        uses = step.second[2]
    refuse_twice(values[2], [use[0] for use in uses], at)
    refuse_full(uses, MOST_USES)
    uses.append((values[2], values[3], values[4]))


def put_link(recipe, at, values):
    one = place_of(recipe, values[1], at)
    other = place_of(recipe, values[2], at)
    refuse_full(recipe.links, MOST_LINKS)
    turns = values[3] if values[0] == "within" else 0
    recipe.links.append((values[0], one, other, turns))


def place_of(recipe, name, at):
    for place, step in enumerate(recipe.steps):
        if step.name == name:
            return place
    raise NoStep(at)


def refuse_twice(name, told, at):
    if name in told:
        raise Twice(at)


def refuse_full(kept, most):
    if len(kept) == most:
        raise TooMany(f"there are {most} of these already")
