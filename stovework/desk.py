"""The desk: it is told of a kitchen by texts, one at a time, and answers each with a text."""

from stovework.answers import bought_text, given_text, plan_text
from stovework.errors import NoDish, NoRow, TooMany, Twice
from stovework.evenings import Evening
from stovework.forms import values_by
from stovework.larders import Larder
from stovework.needs import bought_of, chosen, needs_of
from stovework.nets import MOST_MOMENTS, MOST_TOOLS
from stovework.notes import paper_text, read_paper
from stovework.papers import lets_by
from stovework.reader import read_recipe
from stovework.rows import words_of
from stovework.seeker import seek

MOST_SERVED = 24

# What stands behind the word of each row that is told or asked; a recipe's text has rows of its own.
FORMS = {
    "part": ("name", "name"),
    "stand": ("name", "name", "amount"),
    "bar": ("name",),
    "allow": ("name",),
    "tool": ("name", "many"),
    "pan": ("amount",),
    "spread": ("turns",),
    "pause": ("turns",),
    "pack": ("name", "amount"),
    "shelf": ("name", "stock"),
    "serve": ("course", "name", "plates"),
    "clear": (),
    "gives": ("name",),
    "buy": (),
    "plan": ("parts",),
    "paper": ("parts",),
    "judge": ("low",),
}

LARDER_WORDS = ("part", "stand", "bar", "allow")
ASKED_WORDS = ("gives", "buy", "plan", "paper")


# Served are tuples (course, recipe, plates), in the order told.
class Desk:
    def __init__(self):
        self.larder = Larder()
        self.tools = {}
        self.size = None
        self.spread = 0
        self.pause = 0
        self.sizes = {}
        self.shelf = {}
        self.recipes = {}
        self.served = []

    def say(self, text):
        if not isinstance(text, str):
            raise NoRow(0)
        first = text.partition("\n")
        words = words_of(first[0])
        if words is None:
            raise NoRow(0)
        if words[0] == "dish":
            return hear_recipe(self, text)
        values = values_of(words)
        if values is None:
            raise NoRow(0)
        if values[0] == "judge":
            return judged(self, values[1], paper_behind(first[2]))
        if first[1] != "":
            raise NoRow(0)
        if values[0] in ASKED_WORDS:
            return answered(self, values)
        hear(self, values)
        return "ok"


# The word and what stands behind it; None where these are no words of a row.
def values_of(words):
    if words == ["judge", "none"]:
        return words
    if words[0] not in FORMS:
        return None
    return values_by(FORMS[words[0]], words)


# Its rows are counted on from the row that asks.
def paper_behind(text):
    try:
        return read_paper(text)
    except NoRow as refusal:
        raise NoRow(1 + refusal.at) from None


def hear_recipe(desk, text):
    recipe = read_recipe(text)
    if recipe.name in desk.recipes:
        raise Twice(0)
    desk.recipes[recipe.name] = recipe
    return "ok"


def hear(desk, values):
    if values[0] in LARDER_WORDS:
        hear_of_larder(desk.larder, values)
    elif values[0] == "serve":
        serve(desk, values[1], values[2], values[3])
    elif values[0] == "clear":
        desk.served = []
    else:
        hear_of_kitchen(desk, values)


def hear_of_larder(larder, values):
    if values[0] == "part":
        larder.part(values[1], values[2])
    elif values[0] == "stand":
        larder.stand(values[1], values[2], values[3])
    elif values[0] == "bar":
        larder.bar(values[1])
    else:
        larder.allow(values[1])


def hear_of_kitchen(desk, values):
    if values[0] == "tool":
        put_tool(desk, values[1], values[2])
    elif values[0] == "pan":
        desk.size = values[1]
    elif values[0] == "spread":
        desk.spread = values[1]
    elif values[0] == "pause":
        desk.pause = values[1]
    elif values[0] == "pack":
        desk.sizes[values[1]] = values[2]
    else:
        desk.shelf[values[1]] = values[2]


def put_tool(desk, name, many):
    if name not in desk.tools and len(desk.tools) == MOST_TOOLS:
        raise TooMany("a kitchen has at most twelve tools")
    desk.tools[name] = many


def serve(desk, course, dish, plates):
    recipe = recipe_of(desk, dish)
    if len(desk.served) == MOST_SERVED:
        raise TooMany("at most twenty-four dishes are served")
    desk.served.append((course, recipe, plates))


def recipe_of(desk, dish):
    if dish not in desk.recipes:
        raise NoDish(dish)
    return desk.recipes[dish]


def answered(desk, values):
    if values[0] == "gives":
        return given_text(chosen(recipe_of(desk, values[1]), desk.larder))
    if values[0] == "buy":
        needed = needs_of(all_served(desk), desk.larder)
        return bought_text(bought_of(needed, desk.sizes, desk.shelf))
    evening = evening_of(desk)
    sought = seek(evening.net, values[1])
    if values[0] == "paper":
        return paper_text(sought[2])
    return plan_text(evening, courses_of(desk), sought)


def judged(desk, low, paper):
    net = evening_of(desk).net
    return "yes" if lets_by(net, None if low == "none" else low, paper) else "no"


# Tuples (course, dishes), by the courses' numbers, of the courses in which something is served.
def courses_of(desk):
    courses = []
    for course in range(1, MOST_MOMENTS + 1):
        dishes = [(recipe, plates) for at, recipe, plates in desk.served if at == course]
        if dishes != []:
            courses.append((course, dishes))
    return courses


def all_served(desk):
    dishes = []
    for course in courses_of(desk):
        dishes.extend(course[1])
    return dishes


def evening_of(desk):
    # Nothing is planned that couldn't be cooked: what stands in for the goods is asked for its refusals alone.
    for dish in all_served(desk):
        chosen(dish[0], desk.larder)
    courses = [course[1] for course in courses_of(desk)]
    return Evening(desk.tools, courses, desk.size, desk.spread, desk.pause)
