import math
import random
import re
import unittest

from helping import chance_recipe, recipe_shown, step_shown
from stovework.errors import NoRow, NoStep, StoveError, TooMany, Twice
from stovework.reader import read_recipe
from stovework.recipes import recipe_text

NO_TEXTS = (None, 0, 1, True, 1.5, b"dish soup 1", ["dish soup 1"], ("dish soup 1",), {}, object())

# Three steps, the first with a second way: every row that names a step may stand behind these.
HEAD = "dish soup 4\ncut chop 1 2\nor chop 3 4\nwarm fry 5 6 1\nrest cool 7 8"
NEXT = HEAD.count("\n") + 1

NO_NAMES = ("Egg", "eGg", "egg1", "egg-yolk", "1", "abcdefghijklm", "~", "egg,")
NO_COUNTS = ("-1", "+1", "01", "00", "1.0", "x", "1/2", "1+1/2", "1" * 31, "0" + "1" * 29)
NO_AMOUNTS = ("0", "-1", "x", "1/1", "2/4", "3/2", "0/5", "1+0/5", "0+1/2", "1+2", "1/0", "01", "1+3/2", "+1/2")
NO_AMOUNTS += ("1/", "/2", "1" * 31, "1/" + "2" * 31, "1" * 31 + "+1/2")


def letters(number):
    return "x" + "abcdefghijklmnopqrstuvwxyz"[number]


def outcome(text):
    try:
        return ("read", recipe_shown(read_recipe(text)))
    except TooMany:
        return ("TooMany", None)
    except StoveError as refusal:
        return (type(refusal).__name__, refusal.at)


class Rows(unittest.TestCase):
    def refused(self, kind, at, text):
        with self.subTest(text=text):
            with self.assertRaises(kind) as taken:
                read_recipe(text)
            self.assertIs(type(taken.exception), kind)
            self.assertEqual(taken.exception.at, at)
            self.assertIs(type(taken.exception.at), int)

    def too_many(self, text):
        with self.subTest(text=text):
            with self.assertRaises(TooMany) as taken:
                read_recipe(text)
            self.assertIs(type(taken.exception), TooMany)

    def no_row(self, row):
        """The row is none, behind rows that tell of all that it might name."""
        self.refused(NoRow, NEXT, HEAD + "\n" + row)

    def one_row(self, row):
        """What is read of the row, behind rows that tell of all that it might name."""
        return read_recipe(HEAD + "\n" + row)


class RightForms(Rows):
    def test_dish(self):
        for row, name, plates in (("dish a 1", "a", 1), ("dish abcdefghijkl 1000", "abcdefghijkl", 1000)):
            recipe = read_recipe(row)
            self.assertEqual(recipe_shown(recipe), (name, plates, [], [], []))

    def test_take(self):
        amounts = (("1", (1, 1)), ("3/4", (3, 4)), ("1+1/2", (3, 2)), ("9" * 30, (10**30 - 1, 1)))
        for text, amount in amounts + (("1/" + "9" * 30, (1, 10**30 - 1)),):
            self.assertEqual(self.one_row("take z " + text).takes, [("z", amount)])
        self.assertEqual(self.one_row("take abcdefghijkl 2").takes, [("abcdefghijkl", (2, 1))])

    def test_steps(self):
        for lengths in ((1, 1), (1, 100000), (100000, 100000), (99999, 100000), (3, 4)):
            row = " mix " + " ".join(str(length) for length in lengths)
            for word, kind in (("cut", "Cut"), ("rest", "Rest")):
                step = self.one_row(word + row).steps[3]
                self.assertEqual(step_shown(step), (kind, "mix", *lengths, None, [], None))
            step = self.one_row("warm" + row + " 2+2/3").steps[3]
            self.assertEqual(step_shown(step), ("Warm", "mix", *lengths, (8, 3), [], None))

    def test_second_ways(self):
        for lengths in ((1, 1), (1, 100000), (100000, 100000), (9, 10)):
            recipe = self.one_row("or fry " + " ".join(str(length) for length in lengths))
            self.assertEqual([step.second for step in recipe.steps], [(3, 4, []), (*lengths, []), None])

    def test_uses(self):
        for many, heat in ((1, 0), (8, 1000), (1, 1), (7, 999)):
            recipe = self.one_row(f"with fry pan {many} {heat}")
            self.assertEqual([step.uses for step in recipe.steps], [[], [("pan", many, heat)], []])
            recipe = self.one_row(f"orwith chop pan {many} {heat}")
            self.assertEqual([step.uses for step in recipe.steps], [[], [], []])
            self.assertEqual([step.second for step in recipe.steps], [(3, 4, [("pan", many, heat)]), None, None])

    def test_links(self):
        self.assertEqual(self.one_row("after fry chop").links, [("after", 1, 0, 0)])
        self.assertEqual(self.one_row("after chop cool").links, [("after", 0, 2, 0)])
        self.assertEqual(self.one_row("apart chop cool").links, [("apart", 0, 2, 0)])
        self.assertEqual(self.one_row("apart cool fry").links, [("apart", 2, 1, 0)])
        for turns in (0, 1, 99999, 100000):
            self.assertEqual(self.one_row(f"within cool chop {turns}").links, [("within", 2, 0, turns)])

    def test_alike_link_rows_are_all_kept(self):
        rows = ["after fry chop", "apart fry chop", "within fry chop 3"] * 3
        links = [("after", 1, 0, 0), ("apart", 1, 0, 0), ("within", 1, 0, 3)] * 3
        self.assertEqual(self.one_row("\n".join(rows)).links, links)

    def test_a_name_may_be_a_word_of_a_row(self):
        text = "dish dish 1\ntake take 1\ncut or 1 1\nrest with 2 2\nor or 3 3\nwith or with 1 1\napart or with"
        self.assertEqual(
            recipe_shown(read_recipe(text)),
            (
                "dish",
                1,
                [("take", (1, 1))],
                [("Cut", "or", 1, 1, None, [("with", 1, 1)], (3, 3, [])), ("Rest", "with", 2, 2, None, [], None)],
                [("apart", 0, 1, 0)],
            ),
        )

    def test_one_name_for_a_good_a_step_and_a_tool(self):
        recipe = read_recipe("dish egg 1\ntake egg 1\ncut egg 1 1\nwith egg egg 1 1\nor egg 2 2\norwith egg egg 1 1")
        step = ("Cut", "egg", 1, 1, None, [("egg", 1, 1)], (2, 2, [("egg", 1, 1)]))
        self.assertEqual(recipe_shown(recipe), ("egg", 1, [("egg", (1, 1))], [step], []))


class Order(Rows):
    def test_rows_in_an_order_of_their_own(self):
        text = """dish pie 6
cut peel 1 2
or peel 3 4
orwith peel mill 1 0
take apple 4
rest lie 5 6
after lie peel
with peel knife 1 0
take flour 1/2
warm bake 7 8 1
apart bake peel
orwith peel bowl 2 0
or bake 9 9
with peel board 2 0
within bake lie 0
orwith bake oven 1 180
with bake oven 1 220"""
        recipe = read_recipe(text)
        self.assertEqual(
            recipe_shown(recipe),
            (
                "pie",
                6,
                [("apple", (4, 1)), ("flour", (1, 2))],
                [
                    (
                        "Cut",
                        "peel",
                        1,
                        2,
                        None,
                        [("knife", 1, 0), ("board", 2, 0)],
                        (3, 4, [("mill", 1, 0), ("bowl", 2, 0)]),
                    ),
                    ("Rest", "lie", 5, 6, None, [], None),
                    ("Warm", "bake", 7, 8, (1, 1), [("oven", 1, 220)], (9, 9, [("oven", 1, 180)])),
                ],
                [("after", 1, 0, 0), ("apart", 2, 0, 0), ("within", 2, 1, 0)],
            ),
        )

    def test_a_step_row_behind_one_that_names_it(self):
        for row in ("or stir 1 1", "with stir pot 1 1", "orwith stir pot 1 1"):
            self.refused(NoStep, NEXT, f"{HEAD}\n{row}\ncut stir 1 1")
        for row in ("after stir chop", "after chop stir", "apart stir chop", "apart chop stir"):
            self.refused(NoStep, NEXT, f"{HEAD}\n{row}\ncut stir 1 1")
        for row in ("within stir chop 1", "within chop stir 1"):
            self.refused(NoStep, NEXT, f"{HEAD}\n{row}\ncut stir 1 1")
            self.assertEqual(len(read_recipe(f"{HEAD}\ncut stir 1 1\n{row}").links), 1)

    def test_an_or_row_behind_its_orwith_row(self):
        self.refused(NoStep, NEXT, HEAD + "\norwith fry pan 1 1\nor fry 1 1")
        self.assertEqual(self.one_row("or fry 1 1\norwith fry pan 1 1").steps[1].second, (1, 1, [("pan", 1, 1)]))


class NoRows(Rows):
    def test_what_is_no_text(self):
        for thing in NO_TEXTS:
            self.refused(NoRow, 0, thing)

    def test_the_first_row_is_a_dish_row(self):
        self.refused(NoRow, 0, "")
        self.refused(NoRow, 0, "\n")
        self.refused(NoRow, 0, "\ndish soup 1")
        for row in ("take egg 1", "cut chop 1 1", "rest chop 1 1", "warm chop 1 1 1", "or chop 1 1", "after a b"):
            self.refused(NoRow, 0, row)
            self.refused(NoRow, 0, row + "\ndish soup 1")

    def test_wrong_dish_rows(self):
        rows = ["dish", "dish soup", "dish soup 1 1", "dish 1 soup", "dish 1", "Dish soup 1", "dishes soup 1"]
        rows += ["soup dish 1", " dish soup 1", "dish soup 1 ", "dish  soup 1", "dish soup  1", "dish soup 0", "dish soup 1001"]
        rows += ["dish soup " + count for count in NO_COUNTS] + [f"dish {name} 1" for name in NO_NAMES]
        for row in rows:
            self.refused(NoRow, 0, row)
            self.refused(NoRow, 0, row + "\ntake egg 1")

    def test_a_later_dish_row(self):
        self.no_row("dish stew 2")
        self.no_row("dish soup 4")
        self.no_row("dish")
        self.refused(NoRow, 1, "dish soup 4\ndish soup 4")

    def test_empty_rows_and_a_line_feed_behind_the_last(self):
        self.no_row("")
        self.no_row("\n")
        self.no_row("\ntake egg 1")
        self.no_row(" ")
        self.refused(NoRow, 1, "dish soup 4\n")
        self.refused(NoRow, 1, "dish soup 4\n\ntake egg 1")

    def test_blanks(self):
        for row in ("take egg 1", "cut mix 1 1", "with fry pan 1 1", "after fry chop", "within fry chop 1"):
            self.no_row(" " + row)
            self.no_row(row + " ")
            for place, sign in enumerate(row):
                if sign == " ":
                    self.no_row(row[:place] + " " + row[place:])
                    self.no_row(row[:place] + row[place + 1 :])

    def test_words_that_begin_no_row(self):
        for row in ("step mix 1 1", "boil mix 1 1", "Take egg 1", "TAKE egg 1", "tak egg 1", "takes egg 1", "egg", "~"):
            self.no_row(row)

    def test_too_few_words_and_too_many(self):
        rows = ("take egg 1", "cut mix 1 1", "rest mix 1 1", "warm mix 1 1 1", "or fry 1 1", "with fry pan 1 1")
        rows += ("orwith chop pan 1 1", "after fry chop", "within fry chop 1", "apart fry chop")
        for row in rows:
            self.assertEqual(outcome(HEAD + "\n" + row)[0], "read")
            self.no_row(row + " 1")
            self.no_row(row + " a")
            self.no_row(row + " 1 1")
            words = row.split(" ")
            for many in range(1, len(words)):
                self.no_row(" ".join(words[:many]))

    def test_names(self):
        forms = ("take {} 1", "cut {} 1 1", "rest {} 1 1", "warm {} 1 1 1", "or {} 1 1", "with {} pan 1 1")
        forms += ("with fry {} 1 1", "orwith {} pan 1 1", "orwith chop {} 1 1", "after {} chop", "after chop {}")
        forms += ("within {} chop 1", "within chop {} 1", "apart {} chop", "apart chop {}")
        for form in forms:
            for name in NO_NAMES:
                self.no_row(form.format(name))

    def test_amounts(self):
        for amount in NO_AMOUNTS:
            self.no_row("take egg " + amount)
            self.no_row("warm mix 1 1 " + amount)

    def test_lengths(self):
        for row in ("cut mix {} {}", "rest mix {} {}", "warm mix {} {} 1", "or fry {} {}"):
            pairs = [(0, 1), (0, 0), (2, 1), (100000, 99999), (1, 100001), (100001, 100001), (100001, 1), (1, 0)]
            pairs += [(count, 1) for count in NO_COUNTS] + [(1, count) for count in NO_COUNTS]
            for pair in pairs:
                self.no_row(row.format(*pair))

    def test_many_and_heat(self):
        for row in ("with fry pan {} {}", "orwith chop pan {} {}"):
            pairs = [(0, 1), (9, 1), (1, 1001), (0, 0), (80, 5)]
            pairs += [(count, 1) for count in NO_COUNTS] + [(1, count) for count in NO_COUNTS]
            for pair in pairs:
                self.no_row(row.format(*pair))

    def test_turns(self):
        for turns in NO_COUNTS + ("100001",):
            self.no_row("within fry chop " + turns)

    def test_step_and_other_alike(self):
        self.no_row("after fry fry")
        self.no_row("within fry fry 1")
        self.no_row("apart fry fry")


class NoSteps(Rows):
    def test_steps_of_which_no_row_has_told(self):
        for row in ("or egg 1 1", "with egg pan 1 1", "orwith egg pan 1 1", "after egg fry", "after fry egg"):
            self.refused(NoStep, NEXT, HEAD + "\n" + row)
        for row in ("within egg fry 1", "within fry egg 1", "apart egg fry", "apart fry egg", "after egg spam"):
            self.refused(NoStep, NEXT, HEAD + "\n" + row)

    def test_neither_the_dish_nor_a_good_nor_a_tool_is_a_step(self):
        head = HEAD + "\ntake egg 1\nwith fry pan 1 1"
        for name in ("soup", "egg", "pan"):
            self.refused(NoStep, NEXT + 2, f"{head}\nafter fry {name}")
            self.refused(NoStep, NEXT + 2, f"{head}\nwith {name} pot 1 1")

    def test_an_orwith_of_a_step_without_a_second_way(self):
        self.refused(NoStep, NEXT, HEAD + "\norwith fry pan 1 1")
        self.refused(NoStep, NEXT, HEAD + "\norwith cool pan 1 1")


class ToldTwice(Rows):
    def test_a_good(self):
        self.refused(Twice, NEXT + 2, HEAD + "\ntake egg 1\ntake oil 1\ntake egg 1")
        self.refused(Twice, NEXT + 1, HEAD + "\ntake egg 1\ntake egg 2")

    def test_a_step(self):
        for name in ("chop", "fry", "cool"):
            for row in (f"cut {name} 1 1", f"rest {name} 1 1", f"warm {name} 1 1 1"):
                self.refused(Twice, NEXT, HEAD + "\n" + row)

    def test_a_second_way(self):
        self.refused(Twice, NEXT, HEAD + "\nor chop 3 4")
        self.refused(Twice, NEXT, HEAD + "\nor chop 5 6")
        self.refused(Twice, NEXT + 2, HEAD + "\nor fry 3 4\norwith fry pan 1 1\nor fry 3 4")

    def test_a_tool_of_the_same_way(self):
        self.refused(Twice, NEXT + 1, HEAD + "\nwith fry pan 1 1\nwith fry pan 1 1")
        self.refused(Twice, NEXT + 2, HEAD + "\nwith fry pan 1 1\nwith fry pot 1 1\nwith fry pan 2 3")
        self.refused(Twice, NEXT + 1, HEAD + "\norwith chop pan 1 1\norwith chop pan 2 2")

    def test_a_tool_of_another_way_or_step(self):
        rows = "\nwith chop pan 1 1\norwith chop pan 2 2\nwith fry pan 3 3"
        self.assertEqual(
            [(step.uses, step.second) for step in read_recipe(HEAD + rows).steps],
            [([("pan", 1, 1)], (3, 4, [("pan", 2, 2)])), ([("pan", 3, 3)], None), ([], None)],
        )


class TooManyTold(Rows):
    def test_takes(self):
        takes = [f"take {letters(k)} 1" for k in range(13)]
        self.assertEqual(len(read_recipe("\n".join([HEAD] + takes[:12])).takes), 12)
        self.too_many("\n".join([HEAD] + takes))

    def test_steps(self):
        for form in ("cut {} 1 1", "rest {} 1 1", "warm {} 1 1 1"):
            steps = ["dish soup 1"] + [form.format(letters(k)) for k in range(13)]
            self.assertEqual(len(read_recipe("\n".join(steps[:13])).steps), 12)
            self.too_many("\n".join(steps))

    def test_uses(self):
        for form, other in (("with chop {} 1 1", "orwith chop {} 1 1"), ("orwith chop {} 1 1", "with chop {} 1 1")):
            uses = [form.format(letters(k)) for k in range(13)]
            both = [HEAD] + uses[:12] + [other.format(letters(k)) for k in range(12)]
            step = read_recipe("\n".join(both)).steps[0]
            self.assertEqual((len(step.uses), len(step.second[2])), (12, 12))
            self.too_many("\n".join([HEAD] + uses))
            self.too_many("\n".join(both + uses[12:]))

    def test_links(self):
        links = ["after fry chop", "within fry chop 1", "apart fry chop"] * 8
        self.assertEqual(len(read_recipe("\n".join([HEAD] + links)).links), 24)
        for row in ("after fry chop", "within cool chop 1", "apart cool fry"):
            self.too_many("\n".join([HEAD] + links + [row]))

    def test_all_at_their_most(self):
        names = [letters(k) for k in range(12)]
        rows = ["dish soup 1000"] + [f"take {name} 1" for name in names]
        for name in names:
            rows += [f"warm {name} 1 100000 1"] + [f"with {name} {tool} 8 1000" for tool in names]
            rows += [f"or {name} 1 100000"] + [f"orwith {name} {tool} 8 1000" for tool in names]
        rows += ["within xa xb 100000"] * 24
        text = "\n".join(rows)
        self.assertEqual(recipe_text(read_recipe(text)), text)


class WhichComesFirst(Rows):
    def test_no_row_ahead_of_no_step(self):
        self.no_row("or egg 0 1")
        self.no_row("with egg pan 0 1")
        self.no_row("orwith fry pan 9 1")
        self.no_row("after egg egg")
        self.no_row("within egg spam 100001")

    def test_no_row_ahead_of_twice(self):
        self.no_row("cut fry 0 1")
        self.no_row("warm fry 1 1 0")
        self.no_row("or chop 2 1")
        self.refused(NoRow, NEXT + 1, HEAD + "\ntake egg 1\ntake egg 0")
        self.refused(NoRow, NEXT + 1, HEAD + "\nwith fry pan 1 1\nwith fry pan 1 1001")

    def test_no_row_ahead_of_too_many(self):
        takes = [f"take {letters(k)} 1" for k in range(12)]
        self.refused(NoRow, NEXT + 12, "\n".join([HEAD] + takes + ["take y 0"]))
        links = ["after fry chop"] * 24
        self.refused(NoRow, NEXT + 24, "\n".join([HEAD] + links + ["after fry fry"]))

    def test_no_step_ahead_of_too_many(self):
        links = ["after fry chop"] * 24
        self.refused(NoStep, NEXT + 24, "\n".join([HEAD] + links + ["after fry egg"]))
        self.refused(NoStep, NEXT + 24, "\n".join([HEAD] + links + ["apart egg fry"]))

    def test_twice_ahead_of_too_many(self):
        takes = [f"take {letters(k)} 1" for k in range(12)]
        self.refused(Twice, NEXT + 12, "\n".join([HEAD] + takes + ["take xc 1"]))
        steps = ["dish soup 1"] + [f"cut {letters(k)} 1 1" for k in range(12)]
        self.refused(Twice, 13, "\n".join(steps + ["rest xc 1 1"]))
        for word in ("with", "orwith"):
            uses = [f"{word} chop {letters(k)} 1 1" for k in range(12)]
            self.refused(Twice, NEXT + 12, "\n".join([HEAD] + uses + [f"{word} chop xc 2 2"]))

    def test_the_first_wrong_row_comes(self):
        wrong = (("take egg 0", NoRow), ("after fry egg", NoStep), ("cut fry 1 1", Twice))
        for row, kind in wrong:
            for later, ignored in wrong:
                self.refused(kind, NEXT + 1, "\n".join([HEAD, "take oil 1", row, later]))
        links = ["after fry chop"] * 25
        for row, kind in wrong:
            self.too_many("\n".join([HEAD] + links + [row]))
            self.refused(kind, NEXT + 24, "\n".join([HEAD] + links[:24] + [row] + links))

    def test_a_wrong_first_row_comes_ahead_of_all(self):
        for row in ("take egg 0", "after fry egg", "dish stew 1", ""):
            self.refused(NoRow, 0, "dish soup 0\n" + row)


NAME = "([a-z]{1,12})"
NUMBER = "(0|[1-9][0-9]{0,29})"
AMOUNT = "([0-9+/]+)"
PATTERNS = {
    "dish": f"dish {NAME} {NUMBER}",
    "take": f"take {NAME} {AMOUNT}",
    "cut": f"cut {NAME} {NUMBER} {NUMBER}",
    "rest": f"rest {NAME} {NUMBER} {NUMBER}",
    "warm": f"warm {NAME} {NUMBER} {NUMBER} {AMOUNT}",
    "or": f"or {NAME} {NUMBER} {NUMBER}",
    "with": f"with {NAME} {NAME} {NUMBER} {NUMBER}",
    "orwith": f"orwith {NAME} {NAME} {NUMBER} {NUMBER}",
    "after": f"after {NAME} {NAME}",
    "within": f"within {NAME} {NAME} {NUMBER}",
    "apart": f"apart {NAME} {NAME}",
}


def amount_by_words(text):
    """The amount above 0 by the words of the promise; None where there is none."""
    for whole, top, bottom in re.findall(r"\A(?:(\d+)|(?:\d+\+)?(\d+)/(\d+))\Z", text):
        numbers = re.findall(r"\d+", text)
        if any(len(number) > 30 or (number[0] == "0" and number != "0") for number in numbers):
            return None
        if whole:
            return (int(whole), 1) if int(whole) > 0 else None
        top, bottom = int(top), int(bottom)
        ahead = int(numbers[0]) if "+" in text else 0
        if ("+" in text and ahead == 0) or not 1 <= top < bottom or math.gcd(top, bottom) != 1:
            return None
        return (ahead * bottom + top, bottom)
    return None


class ByWords:
    """Judges a text by the words of the promise, told otherwise than in the program."""

    def __init__(self):
        self.takes, self.links, self.steps, self.ways = {}, [], {}, {}

    def parsed(self, row):
        word = row.split(" ")[0]
        found = re.fullmatch(PATTERNS.get(word, "(?!)"), row)
        if not found or "\n" in row:
            return None
        rest = list(found.groups())
        if word == "dish":
            ok = 1 <= int(rest[1]) <= 1000
        elif word == "take":
            ok = amount_by_words(rest[1]) is not None
        elif word in ("cut", "rest", "warm", "or"):
            ok = 1 <= int(rest[1]) <= int(rest[2]) <= 100000
            ok = ok and (word != "warm" or amount_by_words(rest[3]) is not None)
        elif word in ("with", "orwith"):
            ok = 1 <= int(rest[2]) <= 8 and int(rest[3]) <= 1000
        else:
            ok = rest[0] != rest[1] and (word != "within" or int(rest[2]) <= 100000)
        return [word] + rest if ok else None

    def faults(self, parsed):
        """All faults of a row that is one by its form."""
        word, name = parsed[0], parsed[1]
        found = set()
        if word == "take":
            found |= {"Twice"} if name in self.takes else set()
            found |= {"TooMany"} if len(self.takes) >= 12 else set()
        elif word in ("cut", "rest", "warm"):
            found |= {"Twice"} if name in self.steps else set()
            found |= {"TooMany"} if len(self.steps) >= 12 else set()
        elif word == "or":
            found |= {"NoStep"} if name not in self.steps else set()
            found |= {"Twice"} if (name, 1) in self.ways else set()
        elif word in ("with", "orwith"):
            way = self.ways.get((name, 0 if word == "with" else 1))
            if way is None:
                return {"NoStep"}
            found |= {"Twice"} if parsed[2] in way else set()
            found |= {"TooMany"} if len(way) >= 12 else set()
        else:
            found |= {"NoStep"} if not {name, parsed[2]} <= set(self.steps) else set()
            found |= {"TooMany"} if len(self.links) >= 24 else set()
        return found

    def keep(self, parsed):
        word, name = parsed[0], parsed[1]
        if word == "take":
            self.takes[name] = amount_by_words(parsed[2])
        elif word in ("cut", "rest", "warm"):
            fill = amount_by_words(parsed[4]) if word == "warm" else None
            self.steps[name] = (word.capitalize(), name, int(parsed[2]), int(parsed[3]), fill)
            self.ways[name, 0] = {}
        elif word == "or":
            self.ways[name, 1] = {}
            self.steps[name] += (int(parsed[2]), int(parsed[3]))
        elif word in ("with", "orwith"):
            self.ways[name, 0 if word == "with" else 1][parsed[2]] = (parsed[2], int(parsed[3]), int(parsed[4]))
        else:
            order = list(self.steps)
            turns = int(parsed[3]) if word == "within" else 0
            self.links.append((word, order.index(name), order.index(parsed[2]), turns))

    def step_told(self, name):
        step = self.steps[name]
        second = None
        if (name, 1) in self.ways:
            second = (step[5], step[6], list(self.ways[name, 1].values()))
        return (*step[:5], list(self.ways[name, 0].values()), second)

    def outcome(self, text):
        for at, row in enumerate(text.split("\n")):
            parsed = self.parsed(row)
            if parsed is None or (parsed[0] == "dish") != (at == 0):
                return ("NoRow", at)
            if at == 0:
                dish = parsed
                continue
            faults = self.faults(parsed)
            for kind in ("NoStep", "Twice", "TooMany"):
                if kind in faults:
                    return (kind, None if kind == "TooMany" else at)
            self.keep(parsed)
        steps = [self.step_told(name) for name in self.steps]
        return ("read", (dish[1], int(dish[2]), list(self.takes.items()), steps, self.links))


def spoiled(chance, rows):
    """The rows with one of them changed, doubled, moved, taken away, or put in the place of another one's words."""
    rows = list(rows)
    at = chance.randrange(len(rows))
    other = chance.randrange(len(rows))
    deed = chance.randrange(7)
    if deed == 0:
        rows.insert(at, rows[other])
    elif deed == 1:
        rows.insert(at, rows.pop(other))
    elif deed == 2:
        rows.pop(at)
    elif deed == 3:
        words = rows[at].split(" ")
        values = ("0", "1", "8", "9", "1000", "1001", "100000", "100001", "1/2", "3/2", "2+1/3", "abz", "~", "")
        words[chance.randrange(len(words))] = chance.choice(values)
        rows[at] = " ".join(words)
    elif deed == 4:
        words = rows[at].split(" ")
        words[0] = chance.choice(list(PATTERNS))
        rows[at] = " ".join(words)
    elif deed == 5:
        words = rows[at].split(" ")
        words[chance.randrange(len(words))] = chance.choice(rows[other].split(" "))
        rows[at] = " ".join(words)
    else:
        place = chance.randrange(len(rows[at]) + 1)
        rows[at] = rows[at][:place] + chance.choice(" a0~\n") + rows[at][place + chance.randrange(2) :]
    return rows


class ByChance(unittest.TestCase):
    def test_spoiled_texts(self):
        chance = random.Random(19)
        kinds = {}
        for _ in range(4000):
            rows = recipe_text(chance_recipe(chance, chance.choice((2, 4, 12)))).split("\n")
            if chance.random() < 0.3:
                rows[1:] = chance.sample(rows[1:], len(rows) - 1)
            for _ in range(chance.choice((0, 1, 1, 2, 3))):
                if rows:
                    rows = spoiled(chance, rows)
            text = "\n".join(rows)
            told = outcome(text)
            self.assertEqual(told, ByWords().outcome(text), text)
            kinds[told[0]] = kinds.get(told[0], 0) + 1
        for kind in ("read", "NoRow", "NoStep", "Twice"):
            self.assertGreater(kinds[kind], 100, kinds)

    def test_crowded_texts(self):
        """Rows of a few names, so that many are told twice and more than there may be."""
        chance = random.Random(18)
        names = [letters(k) for k in range(14)]
        kinds = {}
        for _ in range(400):
            rows = ["dish soup 1"] + [f"cut {name} 1 1" for name in names[:8]] + ["or xa 1 1"]
            extra = []
            for word in chance.choice((("take",), ("cut", "rest"), ("with",), ("orwith",), ("after", "apart"))):
                for name in names:
                    extra += [row_by_chance(chance, word, name, names) for _ in range(3)]
            chance.shuffle(extra)
            while extra:
                told = outcome("\n".join(rows + extra))
                self.assertEqual(told, ByWords().outcome("\n".join(rows + extra)))
                kinds[told[0]] = kinds.get(told[0], 0) + 1
                # What is wrong is taken out, so that in the end only what is too many is left to refuse.
                if told[0] in ("read", "TooMany"):
                    break
                extra.pop(told[1] - len(rows))
        self.assertGreater(kinds["TooMany"], 100, kinds)

    def test_read_written_and_read_again(self):
        chance = random.Random(17)
        many = 0
        for _ in range(600):
            rows = recipe_text(chance_recipe(chance, 5)).split("\n")
            rows[1:] = chance.sample(rows[1:], len(rows) - 1)
            if outcome("\n".join(rows))[0] == "read":
                many += 1
                recipe = read_recipe("\n".join(rows))
                self.assertEqual(recipe_shown(read_recipe(recipe_text(recipe))), recipe_shown(recipe))
        self.assertGreater(many, 20)


def row_by_chance(chance, word, name, names):
    if word == "take":
        return f"take {name} {chance.choice(('1', '1/2'))}"
    if word in ("cut", "rest"):
        return f"{word} {name} 1 1"
    if word in ("with", "orwith"):
        return f"{word} {names[0]} {name} 1 1"
    return f"{word} {name} {chance.choice(names)}"


class Asked(unittest.TestCase):
    def test_each_reading_is_the_askers_own(self):
        text = HEAD + "\ntake egg 1\nwith chop pan 1 1\norwith chop pot 1 1\nafter fry chop"
        one = read_recipe(text)
        before = recipe_shown(one)
        one.takes.clear()
        one.links.clear()
        one.steps[0].uses.clear()
        one.steps[0].second[2].clear()
        one.steps.clear()
        self.assertEqual(recipe_shown(read_recipe(text)), before)

    def test_a_long_text_is_refused_at_its_first_wrong_row(self):
        self.assertEqual(outcome("dish soup 1\n" + "\n" * 200000), ("NoRow", 1))
        self.assertEqual(outcome("dish " + "a" * 200000 + " 1"), ("NoRow", 0))
        self.assertEqual(outcome("dish soup " + "1" * 200000), ("NoRow", 0))


if __name__ == "__main__":
    unittest.main()
