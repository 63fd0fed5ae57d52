import itertools
import random
import unittest
from fractions import Fraction

from stovework.desk import Desk
from stovework.errors import (
    InRing,
    NoDish,
    NoPack,
    NoRow,
    NoStand,
    NoStandIn,
    NoStep,
    StoveError,
    TooFew,
    TooMany,
    Twice,
)

CAKE = """dish cake 4
take flour 1/2
take butter 2
take egg 3
cut mix 4 6
with mix bowl 1 0
warm bake 10 12 2
with bake oven 1 180
after bake mix"""

SOUP = """dish soup 2
take carrot 1+1/2
take butter 1/4
cut chop 3 5
with chop hand 1 0
rest boil 8 20
with boil fire 1 100
or boil 12 24
orwith boil oven 1 150
within boil chop 5"""

TEA = "dish tea 1\nrest brew 5 5"
AIR = "dish air 3"

KITCHEN = ("tool hand 1", "tool bowl 1", "tool oven 2", "tool fire 1")


def told(*texts):
    desk = Desk()
    for text in texts:
        assert desk.say(text) == "ok", text
    return desk


def kitchen(*texts):
    return told(*KITCHEN, CAKE, SOUP, TEA, AIR, *texts)


def answer(desk, text):
    """The answer, or the refusal's class and what it keeps."""
    try:
        return desk.say(text)
    except StoveError as refusal:
        return (type(refusal), vars(refusal))


ASKED = ("gives cake", "gives soup", "gives tea", "gives air", "gives bun", "buy", "plan 3", "paper 3", "judge 1\nchain 0")


def shown(desk):
    """All that the desk answers to what is asked."""
    return [answer(desk, text) for text in ASKED]


class Book:
    """A recipe's text, read by the test itself."""

    def __init__(self, text):
        rows = [row.split(" ") for row in text.split("\n")]
        self.name, self.plates = rows[0][1], int(rows[0][2])
        self.steps, self.links = {}, []
        for word, *rest in rows[1:]:
            if word in ("cut", "rest", "warm"):
                fill = sum(Fraction(part) for part in rest[3].split("+")) if word == "warm" else None
                self.steps[rest[0]] = {"word": word, "fill": fill, "ways": [(int(rest[1]), int(rest[2]), {})]}
            elif word == "or":
                self.steps[rest[0]]["ways"].append((int(rest[1]), int(rest[2]), {}))
            elif word in ("with", "orwith"):
                self.steps[rest[0]]["ways"][word == "orwith"][2][rest[1]] = (int(rest[2]), int(rest[3]))
            elif word in ("after", "within", "apart"):
                self.links.append((word, rest[0], rest[1], int(rest[2]) if word == "within" else None))


def rounded_up(amount):
    return -(-amount.numerator // amount.denominator)


class Evening:
    """What was told of an evening, and the words that a plan of it keeps."""

    def __init__(self, books, served, tools, size=Fraction(1), spread=0, pause=0):
        self.books, self.served, self.tools = books, served, tools
        self.size, self.spread, self.pause = size, spread, pause

    def tasks(self):
        """Tuples (course, place, book, step, round, factor), in the order of the rows."""
        found = []
        for course in sorted({course for course, _, _ in self.served}):
            dishes = [(self.books[name], plates) for number, name, plates in self.served if number == course]
            for place, (book, plates) in enumerate(dishes):
                factor = Fraction(plates, book.plates)
                for step, what in book.steps.items():
                    rounds = 1 if what["fill"] is None else rounded_up(what["fill"] * factor / self.size)
                    found.extend((course, place, book, step, k, factor) for k in range(rounds))
        return found


class Asked(unittest.TestCase):
    def hold_answer(self, desk, evening, parts):
        """Plan, paper and judge of one evening, held against one another and against the words."""
        text, paper = desk.say(f"plan {parts}"), desk.say(f"paper {parts}")
        head = text.split("\n")[0].split(" ")
        lead = {"shortest": 2, "between": 3, "none": 1, "from": 2}
        self.assertEqual(len(head), lead[head[0]])
        inner = len([row for row in paper.split("\n") if row.split(" ")[0] in ("split", "ways")])
        self.assertLessEqual(inner, parts)
        if head[0] == "none":
            self.assertEqual(desk.say(f"judge none\n{paper}"), "yes")
        else:
            low = int(head[1])
            self.assertEqual(desk.say(f"judge {low}\n{paper}"), "yes")
            self.assertEqual(desk.say(f"judge {low + 1}\n{paper}"), "no")
            self.assertEqual(desk.say(f"judge none\n{paper}"), "no")
        if head[0] in ("between", "from"):
            self.assertEqual(inner, parts)
        if head[0] in ("none", "from"):
            self.assertNotIn("\n", text)
        else:
            length = self.hold_rows(evening, text.split("\n")[1:])
            self.assertEqual(length, int(head[-1]))
            if head[0] == "between":
                self.assertGreater(length, int(head[1]))
        return head[0]

    def hold_rows(self, evening, rows):
        """The rows behind the first; told is the greatest of their times."""
        tasks, runs = evening.tasks(), []
        courses = sorted({course for course, _, _ in evening.served})
        self.assertEqual(len(rows), len(tasks) + len(courses))
        for (course, place, book, step, k, factor), row in zip(tasks, rows):
            words = row.split(" ")
            self.assertEqual(words[:5], [str(course), str(place), book.name, step, str(k)])
            way, begin, end = (int(word) for word in words[5:8])
            least, most, uses = book.steps[step]["ways"][way]
            if book.steps[step]["word"] == "cut":
                least, most = rounded_up(least * factor), rounded_up(most * factor)
            self.assertGreaterEqual(begin, 0)
            self.assertTrue(least <= end - begin <= most)
            pieces = {word.split(":")[0]: [int(each) for each in word.split(":")[1].split(",")] for word in words[8:]}
            self.assertEqual(len(pieces), len(words[8:]))
            self.assertEqual(list(pieces), sorted(uses))
            for tool, some in pieces.items():
                self.assertEqual((len(some), some), (uses[tool][0], sorted(set(some))))
                self.assertTrue(set(some) <= set(range(evening.tools[tool])))
            runs.append((begin, end, uses, pieces))
        times = {}
        for course, row in zip(courses, rows[len(tasks) :]):
            words = row.split(" ")
            self.assertEqual(words[:2], ["served", str(course)])
            self.assertEqual(len(words), 3)
            times[course] = int(words[2])
        self.hold_links(tasks, runs)
        self.hold_tools(runs)
        self.hold_pieces(runs)
        self.hold_servings(evening, tasks, runs, times)
        return max([0] + [run[1] for run in runs] + list(times.values()))

    def hold_links(self, tasks, runs):
        for one, other in itertools.permutations(range(len(tasks)), 2):
            if tasks[one][:3] == tasks[other][:3]:
                for word, step, behind, turns in tasks[one][2].links:
                    if (tasks[one][3], tasks[other][3]) == (step, behind):
                        begin, end = runs[one][0], runs[other][1]
                        if word == "apart":
                            self.assertTrue(runs[one][1] <= runs[other][0] or runs[other][1] <= runs[one][0])
                        else:
                            self.assertGreaterEqual(begin, end)
                        if word == "within":
                            self.assertLessEqual(begin, end + turns)

    def hold_tools(self, runs):
        for one, other in itertools.combinations(runs, 2):
            if one[0] < other[1] and other[0] < one[1]:
                for tool in set(one[2]) & set(other[2]):
                    self.assertEqual(one[2][tool][1], other[2][tool][1])
                    self.assertEqual(set(one[3][tool]) & set(other[3][tool]), set())

    def hold_pieces(self, runs):
        """Each has the least pieces that nobody has who was dealt ahead and still goes on."""
        dealt = []
        for i in sorted(range(len(runs)), key=lambda k: (runs[k][0], k)):
            for tool, some in runs[i][3].items():
                had = {piece for j in dealt if runs[j][1] > runs[i][0] for piece in runs[j][3].get(tool, [])}
                self.assertEqual(some, [k for k in range(99) if k not in had][: len(some)])
            dealt.append(i)

    def hold_servings(self, evening, tasks, runs, times):
        for (course, _, book, step, _, _), run in zip(tasks, runs):
            if step not in [link[2] for link in book.links if link[0] != "apart"]:
                self.assertTrue(times[course] - evening.spread <= run[1] <= times[course])
        courses = sorted(times)
        self.assertTrue(all(time >= 0 for time in times.values()))
        for one, other in zip(courses, courses[1:]):
            self.assertGreaterEqual(times[other], times[one] + evening.pause)


BOOKS = {book.name: book for book in (Book(CAKE), Book(SOUP), Book(TEA), Book(AIR))}
TOOLS = {"hand": 1, "bowl": 1, "oven": 2, "fire": 1}


class Told(unittest.TestCase):
    def test_each_row_once_and_again(self):
        desk = Desk()
        for text in (
            "part butter milk",
            "stand butter oil 3/4",
            "bar milk",
            "allow milk",
            "tool pot 8",
            "tool axe 1",
            "pan 1/2",
            "spread 0",
            "spread 100000",
            "pause 0",
            "pause 100000",
            "pack egg 6",
            "shelf egg 0",
            "shelf egg 1+1/2",
            "clear",
        ):
            self.assertEqual(desk.say(text), "ok")
            if not text.startswith("stand"):
                self.assertEqual(desk.say(text), "ok")
        for text in (CAKE, SOUP, TEA, AIR):
            self.assertEqual(desk.say(text), "ok")
        for text in ("serve 1 cake 1", "serve 8 cake 1000", "serve 1 cake 1"):
            self.assertEqual(desk.say(text), "ok")

    def test_a_tool_again_stands_in_the_old_number_s_place(self):
        desk = told("dish tea 1\nrest brew 5 5\nwith brew pot 2 0", "serve 1 tea 1", "tool pot 1")
        self.assertEqual(answer(desk, "plan 0"), (TooFew, {"tool": "pot"}))
        desk.say("tool pot 2")
        self.assertEqual(desk.say("plan 0"), "shortest 5\n1 0 tea brew 0 0 0 5 pot:0,1\nserved 1 5")
        desk.say("tool pot 1")
        self.assertEqual(answer(desk, "plan 0"), (TooFew, {"tool": "pot"}))

    def test_pan_spread_and_pause_again(self):
        fry = "dish egg 1\nwarm fry 5 5 2\nwith fry pan 1 200"
        desk = told(fry, "tool pan 1", "serve 1 egg 1")
        self.assertEqual(desk.say("plan 9"), "none")
        desk.say("spread 4")
        self.assertEqual(desk.say("plan 9"), "none")
        desk.say("spread 5")
        rows = ["1 0 egg fry 0 0 0 5 pan:0", "1 0 egg fry 1 0 5 10 pan:0", "served 1 10"]
        self.assertIn(desk.say("plan 9").split("\n"), (["shortest 10"] + rows, ["shortest 10", *turned(rows)]))
        desk.say("pan 2")
        self.assertEqual(desk.say("plan 9"), "shortest 5\n1 0 egg fry 0 0 0 5 pan:0\nserved 1 5")
        desk.say("pan 1+1/2")
        self.assertEqual(desk.say("plan 9").split("\n")[0], "shortest 10")
        desk.say("spread 0")
        self.assertEqual(desk.say("plan 9"), "none")

    def test_pause(self):
        desk = told(TEA, "serve 2 tea 1", "serve 5 tea 1", "pause 30")
        for pause in (30, 0, 2):
            desk.say(f"pause {pause}")
            rows = desk.say("plan 9").split("\n")
            self.assertEqual(rows[0], f"shortest {5 + pause}")
            self.assertEqual(rows[3:], ["served 2 5", f"served 5 {5 + pause}"])

    def test_before_they_are_told_spread_and_pause_are_nought(self):
        desk = told("dish egg 1\nrest fry 1 1\nwith fry pan 1 0", "tool pan 1", "serve 1 egg 1", "serve 2 egg 1")
        self.assertEqual(desk.say("plan 9").split("\n")[0], "shortest 2")
        desk.say("tool pan 2")
        self.assertEqual(desk.say("plan 9").split("\n")[3:], ["served 1 1", "served 2 1"])
        desk = told("dish egg 1\nrest fry 1 1\nwith fry pan 1 0", "tool pan 1", "serve 1 egg 1", "serve 1 egg 1")
        self.assertEqual(desk.say("plan 9"), "none")
        desk.say("spread 1")
        self.assertEqual(desk.say("plan 9").split("\n")[0], "shortest 2")

    def test_clear(self):
        desk = kitchen("serve 1 cake 4", "pack flour 1", "pack butter 1", "pack egg 6")
        self.assertEqual(desk.say("buy"), "butter 2 0\negg 1 3\nflour 1 1/2")
        self.assertEqual(desk.say("clear"), "ok")
        self.assertEqual(desk.say("buy"), "")
        self.assertEqual(desk.say("plan 9"), "shortest 0")
        desk.say("serve 1 cake 2")
        self.assertEqual(desk.say("buy"), "butter 1 0\negg 1 4+1/2\nflour 1 3/4")

    def test_a_dish_is_served_at_the_end_of_its_course(self):
        desk = kitchen("spread 50", "serve 3 tea 1", "serve 1 soup 2", "serve 3 cake 4", "serve 1 tea 1", "serve 3 tea 2")
        rows = [row.split(" ")[:3] for row in desk.say("plan 50").split("\n")[1:]]
        dishes = [["1", "0", "soup"]] * 2 + [["1", "1", "tea"], ["3", "0", "tea"]]
        dishes += [["3", "1", "cake"]] * 3 + [["3", "2", "tea"]]
        self.assertEqual(rows[:-2], dishes)
        self.assertEqual([row[:2] for row in rows[-2:]], [["served", "1"], ["served", "3"]])

    def test_two_desks_have_nothing_of_one_another(self):
        one, other = kitchen("serve 1 cake 4", "bar egg"), Desk()
        for text in ("gives cake", "serve 1 tea 1"):
            self.assertEqual(answer(other, text), (NoDish, {"dish": text.split(" ")[-2 if "serve" in text else -1]}))
        self.assertEqual((other.say("buy"), other.say("plan 0")), ("", "shortest 0"))
        before = shown(one)
        for text in (CAKE, "tool oven 1", "serve 1 cake 8", "pan 1/8", "pack egg 1", "part flour egg", "clear"):
            self.assertEqual(other.say(text), "ok")
        self.assertEqual(shown(one), before)
        self.assertEqual(other.say("gives cake"), "flour flour 1\nbutter butter 1\negg egg 1")
        self.assertEqual(answer(one, "gives cake"), (NoStandIn, {"good": "egg"}))


def turned(rows):
    """The rows with the other round first."""
    return ["1 0 egg fry 0 0 5 10 pan:0", "1 0 egg fry 1 0 0 5 pan:0", rows[2]]


class GivesAndBuy(unittest.TestCase):
    def test_gives(self):
        desk = kitchen()
        self.assertEqual(desk.say("gives cake"), "flour flour 1\nbutter butter 1\negg egg 1")
        self.assertEqual(desk.say("gives tea"), "")
        for text in ("part butter milk", "part milk water", "stand butter oil 3/4", "stand oil lard 1+1/3", "bar water"):
            desk.say(text)
        self.assertEqual(desk.say("gives cake"), "flour flour 1\nbutter oil 3/4\negg egg 1")
        desk.say("bar oil")
        self.assertEqual(desk.say("gives cake"), "flour flour 1\nbutter lard 1\negg egg 1")
        desk.say("bar lard")
        self.assertEqual(answer(desk, "gives cake"), (NoStandIn, {"good": "butter"}))
        self.assertEqual(answer(desk, "gives soup"), (NoStandIn, {"good": "butter"}))
        desk.say("allow water")
        self.assertEqual(desk.say("gives soup"), "carrot carrot 1\nbutter butter 1")

    def test_buy(self):
        desk = kitchen("serve 2 soup 3", "serve 1 cake 6", "serve 2 cake 2")
        # Flour 1, butter 4 and 3/8, eggs 6, carrots 2 and 1/4.
        self.assertEqual(answer(desk, "buy"), (NoPack, {"good": "butter"}))
        desk.say("pack butter 1/4")
        self.assertEqual(answer(desk, "buy"), (NoPack, {"good": "carrot"}))
        desk.say("shelf carrot 5")
        self.assertEqual(answer(desk, "buy"), (NoPack, {"good": "egg"}))
        desk.say("pack egg 10")
        desk.say("shelf egg 2")
        desk.say("pack flour 1")
        self.assertEqual(desk.say("buy"), "butter 18 1/8\ncarrot 0 2+3/4\negg 1 6\nflour 1 0")
        desk.say("pack butter 1/8")
        desk.say("shelf egg 1")
        desk.say("shelf carrot 0")
        desk.say("pack carrot 2")
        self.assertEqual(desk.say("buy"), "butter 35 0\ncarrot 2 1+3/4\negg 1 5\nflour 1 0")

    def test_buy_what_stands_in(self):
        desk = kitchen("serve 1 cake 4", "bar butter", "stand butter egg 1/2", "shelf flour 1", "pack egg 1")
        self.assertEqual(desk.say("buy"), "egg 4 0\nflour 0 1/2")
        desk.say("bar egg")
        self.assertEqual(answer(desk, "buy"), (NoStandIn, {"good": "butter"}))

    def test_nothing_served(self):
        self.assertEqual(Desk().say("buy"), "")
        self.assertEqual(kitchen("serve 1 tea 1").say("buy"), "")


class Plans(Asked):
    def test_nothing_served(self):
        for desk in (Desk(), kitchen()):
            for parts in (0, 1, 400):
                self.assertEqual(desk.say(f"plan {parts}"), "shortest 0")
                self.assertEqual(self.hold_answer(desk, Evening({}, [], {}), parts), "shortest")
            self.assertEqual(desk.say("judge 0\nchain"), "yes")
            self.assertEqual(desk.say("judge 1\nchain"), "no")

    def test_one_dish(self):
        desk = kitchen("serve 4 cake 2")
        text = "shortest 12\n4 0 cake mix 0 0 0 2 bowl:0\n4 0 cake bake 0 0 2 12 oven:0\nserved 4 12"
        self.assertEqual(desk.say("plan 200"), text)
        self.assertEqual(self.hold_answer(desk, Evening(BOOKS, [(4, "cake", 2)], TOOLS), 200), "shortest")

    def test_a_dish_without_steps(self):
        desk = kitchen("serve 2 air 1", "serve 7 air 5", "pause 4")
        self.assertEqual(desk.say("plan 0"), "shortest 4\nserved 2 0\nserved 7 4")

    def test_several_courses(self):
        served = [(1, "soup", 2), (1, "tea", 1), (2, "cake", 4), (2, "soup", 3)]
        for spread, pause, parts in ((0, 0, 3), (10, 5, 20), (30, 0, 200), (2, 40, 50)):
            desk = kitchen(f"spread {spread}", f"pause {pause}", *[f"serve {c} {d} {p}" for c, d, p in served])
            self.hold_answer(desk, Evening(BOOKS, served, TOOLS, Fraction(1), spread, pause), parts)

    def test_none_and_from(self):
        desk = told("dish egg 1\nwarm fry 5 5 3\nwith fry pan 1 200", "tool pan 1", "serve 1 egg 1")
        self.assertEqual(desk.say("plan 0"), "from 15")
        self.assertEqual(desk.say("paper 0").split(" ")[0], "full")
        self.assertEqual(desk.say("plan 9"), "none")
        self.assertEqual(desk.say("paper 9").split("\n")[0].split(" ")[0], "split")

    def test_between(self):
        fry = "dish egg 1\nwarm fry 4 4 5\nwith fry pan 1 200"
        desk = told(fry, "tool pan 3", "spread 100", "serve 1 egg 1")
        self.assertEqual(desk.say("plan 0").split("\n")[0], "between 7 8")
        evening = Evening({"egg": Book(fry)}, [(1, "egg", 1)], {"pan": 3}, Fraction(1), 100)
        self.assertEqual(self.hold_answer(desk, evening, 0), "between")
        self.hold_answer(desk, evening, 400)

    def test_several_pieces_and_tools_sorted(self):
        stew = "dish stew 1\nrest cook 5 5\nwith cook pot 2 80\nwith cook axe 1 0\nwith cook cup 3 0"
        desk = told(stew, "tool pot 4", "tool axe 2", "tool cup 8", "serve 1 stew 1", "serve 1 stew 1")
        rows = ["1 0 stew cook 0 0 0 5 axe:0 cup:0,1,2 pot:0,1", "1 1 stew cook 0 0 0 5 axe:1 cup:3,4,5 pot:2,3"]
        self.assertEqual(desk.say("plan 1").split("\n"), ["shortest 5", *rows, "served 1 5"])

    def test_chance_evenings(self):
        chance = random.Random(52)
        heads = {}
        for _ in range(60):
            tools = {name: chance.randint(1, 3) for name in ("hand", "pan", "oven")}
            texts = [chance_text(chance, name, tools) for name in ("aa", "bb", "cc")]
            books = {book.name: book for book in map(Book, texts)}
            spread, pause = chance.choice((0, 5, 20)), chance.choice((0, 10))
            size = chance.choice((Fraction(1), Fraction(2), Fraction(1, 2)))
            desk = told(*texts, *[f"tool {name} {many}" for name, many in tools.items()])
            for text in (f"spread {spread}", f"pause {pause}", f"pan {size}"):
                desk.say(text)
            served = []
            for _ in range(chance.randint(1, 4)):
                served.append((chance.randint(1, 8), chance.choice(sorted(books)), chance.randint(1, 4)))
                desk.say("serve {} {} {}".format(*served[-1]))
            evening = Evening(books, served, tools, size, spread, pause)
            parts = chance.choice((0, 3, 25))
            if len(evening.tasks()) > 24:
                self.assertEqual(answer(desk, f"plan {parts}")[0], TooMany)
            else:
                head = self.hold_answer(desk, evening, parts)
                heads[head] = heads.get(head, 0) + 1
        self.assertGreater(heads["shortest"], 10)
        self.assertGreater(heads["none"], 2)

    def test_asked_twice(self):
        desk = kitchen("spread 20", "serve 1 soup 2", "serve 2 cake 4", "serve 2 soup 1")
        self.assertEqual(desk.say("plan 7"), desk.say("plan 7"))
        self.assertEqual(desk.say("paper 7"), desk.say("paper 7"))


def chance_text(chance, name, tools):
    rows = [f"dish {name} {chance.randint(1, 4)}"]
    steps = ["chop", "fry", "rest", "dress"][: chance.randint(1, 4)]
    for step in steps:
        least = chance.randint(1, 8)
        most = least + chance.choice((0, 2, 9))
        word = chance.choice(("cut", "rest", "warm"))
        fill = " " + chance.choice(("1", "1/2", "1+1/2")) if word == "warm" else ""
        rows.append(f"{word} {step} {least} {most}{fill}")
        for tool in chance.sample(sorted(tools), chance.choice((0, 1, 1, 2))):
            rows.append(f"with {step} {tool} {chance.randint(1, tools[tool])} {chance.choice((0, 0, 180))}")
        if chance.random() < 0.3:
            rows.append(f"or {step} {least + 2} {most + 4}")
            if chance.random() < 0.5:
                rows.append(f"orwith {step} {chance.choice(sorted(tools))} 1 0")
    for one, other in itertools.combinations(range(len(steps)), 2):
        if chance.random() < 0.5:
            word = chance.choice(("after", "within", "apart"))
            turns = f" {chance.choice((0, 3, 20))}" if word == "within" else ""
            rows.append(f"{word} {steps[other]} {steps[one]}{turns}")
    return "\n".join(rows)


class Judge(unittest.TestCase):
    desk = kitchen("serve 1 cake 2")

    def test_with_a_paper(self):
        for low, wanted in ((0, "yes"), (12, "yes"), (13, "no"), (10**15, "no"), ("none", "no")):
            self.assertEqual(self.desk.say(f"judge {low}\nchain 0 1 2 3"), wanted)
        # Ten turns of work for two ovens.
        for row, low in (("full oven 2:3", 5), ("full oven 0,1,2:3,4", 7)):
            self.assertEqual(self.desk.say(f"judge {low}\n{row}"), "yes")
            self.assertEqual(self.desk.say(f"judge {low + 1}\n{row}"), "no")
        self.assertEqual(self.desk.say("judge 0\nchain 0 3"), "no")
        self.assertEqual(self.desk.say("judge 0\nchain 999999999"), "no")
        self.assertEqual(self.desk.say("judge 0\nring 0 1"), "no")
        self.assertEqual(self.desk.say("judge 0\nchain\nchain"), "no")

    def test_with_none(self):
        for text in ("judge 0", "judge 0\n", "judge none", "judge none\n", "judge 1000000000000000\n"):
            self.assertEqual(self.desk.say(text), "no")

    def test_none_as_a_number(self):
        desk = told("dish egg 1\nrest fry 5 5\nrest cool 5 5\nafter fry cool\nafter cool fry", "serve 3 egg 1")
        self.assertEqual(desk.say("plan 0"), "none")
        paper = desk.say("paper 0")
        self.assertEqual(paper.split(" ")[0], "ring")
        for low in ("none", "0", "77"):
            self.assertEqual(desk.say(f"judge {low}\n{paper}"), "yes")

    def test_no_number(self):
        for low in ("1000000000000001", "-1", "00", "01", "x", "None", "nones", "", " 1", "1 1", "none none", "1/2"):
            for paper in ("", "\nchain", "\nwrong"):
                self.assertEqual(answer(self.desk, f"judge {low}{paper}"), (NoRow, {"at": 0}))
        self.assertEqual(answer(self.desk, "judge\nchain"), (NoRow, {"at": 0}))

    def test_rows_that_are_none(self):
        for text, at in (
            ("judge 0\nwrong", 1),
            ("judge none\nchain 0 ", 1),
            ("judge 0\n\n", 1),
            ("judge 0\n\nchain", 1),
            ("judge 0\nchain\n", 2),
            ("judge 0\nchain\nring\nfull\nway", 3),
            ("judge 0\nchain\njudge 0", 2),
        ):
            self.assertEqual(answer(self.desk, text), (NoRow, {"at": at}))

    def test_by_the_evening_as_it_is_now(self):
        desk = kitchen("serve 1 cake 2")
        self.assertEqual(desk.say("judge 12\nchain 0 1 2 3"), "yes")
        desk.say("clear")
        self.assertEqual(desk.say("judge 12\nchain 0 1 2 3"), "no")


NO_ROWS = (
    "",
    " ",
    "\n",
    "buy ",
    " buy",
    "buy buy",
    "buy\n",
    "buy\nbuy",
    "buy now",
    "Buy",
    "bu",
    "clear all",
    "clear\n",
    "clear\nclear",
    "part egg",
    "part egg milk water",
    "part Egg milk",
    "part egg milk1",
    "part egg  milk",
    "part abcdefghijklm milk",
    "stand egg milk",
    "stand egg milk 0",
    "stand egg milk 2/4",
    "stand egg milk 01",
    "stand egg milk -1",
    "stand egg milk 1 1",
    "stand egg 1 milk",
    "bar",
    "bar egg milk",
    "bar egg1",
    "allow",
    "allow 1",
    "tool pot",
    "tool pot 0",
    "tool pot 9",
    "tool pot 01",
    "tool pot 1 1",
    "tool Pot 1",
    "tool 1 pot",
    "pan",
    "pan 0",
    "pan 3/2",
    "pan x",
    "pan 1 1",
    "spread",
    "spread 100001",
    "spread -1",
    "spread 1/2",
    "spread 00",
    "pause",
    "pause 100001",
    "pause 1 2",
    "pack egg",
    "pack egg 0",
    "pack 6 egg",
    "pack egg 6 6",
    "shelf egg",
    "shelf egg -1",
    "shelf egg 1/1",
    "shelf 1",
    "serve 1 cake",
    "serve 0 cake 1",
    "serve 9 cake 1",
    "serve 1 cake 0",
    "serve 1 cake 1001",
    "serve 1 Cake 1",
    "serve cake 1 1",
    "serve 1 cake 1 1",
    "serve 01 cake 1",
    "serve 1 cake 1\nserve 1 cake 1",
    "gives",
    "gives cake tea",
    "gives Cake",
    "gives cake\n",
    "plan",
    "plan 401",
    "plan -1",
    "plan 00",
    "plan x",
    "plan 1 1",
    "plan 1\n",
    "plan 1\nchain",
    "paper",
    "paper 401",
    "paper 1\nchain",
    "judge",
    "judge 1 2",
    "take egg 1",
    "cut chop 1 1",
    "chain",
    "split 0 1",
    "none",
    "ok",
    "dishes",
    "dishes soup 4",
    " dish soup 4",
)


class Refusals(unittest.TestCase):
    def refused(self, desk, text, error, **kept):
        """The refusal is as told, and all is answered as ahead of it."""
        before = shown(desk)
        self.assertEqual(answer(desk, text), (error, kept))
        self.assertEqual(shown(desk), before)

    def test_texts_that_are_none_of_these(self):
        desk = kitchen("serve 1 cake 2", "bar milk")
        before = shown(desk)
        for text in NO_ROWS:
            self.assertEqual(answer(desk, text), (NoRow, {"at": 0}), text)
        for thing in (None, 0, True, 1.5, b"buy", ["buy"], ("buy",), {"buy": True}, Desk):
            self.assertEqual(answer(desk, thing), (NoRow, {"at": 0}))
        self.assertEqual(shown(desk), before)

    def test_a_recipe_s_text_with_a_fault(self):
        desk = kitchen()
        for text, error, kept in (
            ("dish", NoRow, {"at": 0}),
            ("dish bun", NoRow, {"at": 0}),
            ("dish  bun 4", NoRow, {"at": 0}),
            ("dish bun 0", NoRow, {"at": 0}),
            ("dish bun 1001", NoRow, {"at": 0}),
            ("dish bun 4\n", NoRow, {"at": 1}),
            ("dish bun 4\nbuy", NoRow, {"at": 1}),
            ("dish bun 4\ntake egg 1\nplan 3", NoRow, {"at": 2}),
            ("dish bun 4\ncut chop 1 1\nafter chop fry", NoStep, {"at": 2}),
            ("dish bun 4\ntake egg 1\ntake egg 2", Twice, {"at": 2}),
            ("dish bun 4" + "".join(f"\ntake a{chr(97 + k)} 1" for k in range(13)), TooMany, {}),
        ):
            self.refused(desk, text, error, **kept)
        self.assertEqual(desk.say("dish bun 4"), "ok")

    def test_a_recipe_told_before(self):
        desk = kitchen("serve 1 tea 1")
        for text in (TEA, "dish tea 7", "dish tea 1\nrest brew 9 9"):
            self.refused(desk, text, Twice, at=0)
        # What is wrong in the text itself comes first.
        self.refused(desk, "dish tea 1\nwrong", NoRow, at=1)
        self.refused(desk, "dish tea 1\nrest brew 1 1\nafter brew fry", NoStep, at=2)
        self.refused(desk, "dish tea 1\nrest brew 1 1\nrest brew 1 1", Twice, at=2)
        self.assertEqual(desk.say("dish teas 1"), "ok")

    def test_dishes_that_were_not_told(self):
        desk = kitchen()
        self.refused(desk, "gives bun", NoDish, dish="bun")
        self.refused(desk, "serve 1 bun 4", NoDish, dish="bun")
        self.refused(desk, "gives cakes", NoDish, dish="cakes")
        for text in ("gives bun 1", "serve 0 bun 1", "serve 1 bun 0"):
            self.refused(desk, text, NoRow, at=0)

    def test_what_the_larder_refuses(self):
        desk = kitchen("part butter milk", "part milk water", "stand butter oil 3/4")
        self.refused(desk, "part egg egg", InRing, ring=["egg"])
        self.refused(desk, "part water butter", InRing, ring=["water", "butter", "milk"])
        self.refused(desk, "stand egg egg 1", NoStand)
        self.refused(desk, "stand butter oil 1/2", NoStand)
        names = ["x" + chr(97 + k // 26) + chr(97 + k % 26) for k in range(77)]
        for name in names[:76]:
            self.assertEqual(desk.say(f"bar {name}"), "ok")
        self.refused(desk, "bar egg", TooMany)
        self.refused(desk, "part butter egg", TooMany)
        self.refused(desk, "stand butter egg 1", TooMany)
        self.refused(desk, "part egg egg", InRing, ring=["egg"])
        self.refused(desk, "stand egg egg 1", NoStand)
        self.assertEqual(desk.say(f"part butter {names[0]}"), "ok")
        self.assertEqual(desk.say("allow egg"), "ok")

    def test_a_thirteenth_tool(self):
        desk = Desk()
        names = ["t" + chr(97 + k) for k in range(13)]
        for name in names[:12]:
            self.assertEqual(desk.say(f"tool {name} 1"), "ok")
        self.refused(desk, f"tool {names[12]} 1", TooMany)
        self.refused(desk, f"tool {names[12]} 9", NoRow, at=0)
        self.assertEqual(desk.say(f"tool {names[0]} 8"), "ok")

    def test_a_twenty_fifth_dish(self):
        desk = kitchen()
        for k in range(24):
            self.assertEqual(desk.say(f"serve {k % 8 + 1} air 1"), "ok")
        self.refused(desk, "serve 1 air 1", TooMany)
        self.refused(desk, "serve 1 bun 1", NoDish, dish="bun")
        self.refused(desk, "serve 9 air 1", NoRow, at=0)
        desk.say("clear")
        self.assertEqual(desk.say("serve 1 air 1"), "ok")

    def test_stand_ins_come_ahead_of_all_else_that_is_asked(self):
        # No tools and no packs are told, and there are too many tasks.
        desk = told(CAKE, SOUP, "serve 2 cake 1000", "serve 1 soup 2", "bar egg", "bar carrot")
        for text in ("buy", "plan 3", "paper 3", "judge 3", "judge none\nchain"):
            self.refused(desk, text, NoStandIn, good="carrot")
            desk.say("allow carrot")
            self.refused(desk, text, NoStandIn, good="egg")
            desk.say("bar carrot")
        self.refused(desk, "judge 3\nwrong", NoRow, at=1)
        desk.say("allow carrot")
        desk.say("allow egg")
        self.refused(desk, "buy", NoPack, good="butter")
        for text in ("plan 3", "paper 3", "judge 3"):
            self.refused(desk, text, TooMany)

    def test_what_the_evening_refuses(self):
        desk = told(SOUP, "serve 1 soup 2")
        for tool in ("hand", "fire", "oven"):
            for text in ("plan 0", "paper 400", "judge 0\nchain"):
                self.refused(desk, text, TooFew, tool=tool)
            desk.say(f"tool {tool} 1")
        self.assertEqual(desk.say("plan 9").split("\n")[0], "shortest 11")
        for _ in range(12):
            desk.say("serve 2 soup 1")
        for text in ("plan 0", "paper 400", "judge 0\nchain"):
            self.refused(desk, text, TooMany)
        self.refused(desk, "judge 0\nchai", NoRow, at=1)

    def test_a_refused_part_leaves_the_larder_as_it_was(self):
        desk = kitchen("part butter milk", "bar milk")
        self.refused(desk, "part milk butter", InRing, ring=["milk", "butter"])
        self.assertEqual(answer(desk, "gives cake"), (NoStandIn, {"good": "butter"}))
        desk.say("allow milk")
        self.assertEqual(desk.say("gives cake").split("\n")[1], "butter butter 1")


if __name__ == "__main__":
    unittest.main()
