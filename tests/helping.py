"""What several of the tests need: steps, recipes and nets as plain values; recipes, nets, plans and cases by chance;
and the words of some promises, reckoned otherwise than by the program."""

import copy
import itertools
from fractions import Fraction

from stovework.nets import Net
from stovework.recipes import Recipe
from stovework.steps import Cut, Rest, Warm


def step_shown(step):
    second = step.second
    if second is not None:
        second = (second[0], second[1], list(second[2]))
    fill = step.fill if isinstance(step, Warm) else None
    return (type(step).__name__, step.name, step.least, step.most, fill, list(step.uses), second)


def recipe_shown(recipe):
    steps = [step_shown(step) for step in recipe.steps]
    return (recipe.name, recipe.plates, list(recipe.takes), steps, list(recipe.links))


def chance_name(chance):
    return "".join(chance.choice("abz") for _ in range(chance.choice((1, 2, 12))))


def chance_names(chance, many):
    names = []
    while len(names) < many:
        name = chance_name(chance)
        if name not in names:
            names.append(name)
    return names


def chance_amount(chance):
    high = chance.choice((3, 100, 10**30 - 1))
    amount = Fraction(chance.randint(1, high), chance.choice((1, 2, 7, high)))
    return (amount.numerator, amount.denominator)


def chance_lengths(chance):
    least = chance.choice((1, 2, 50, 100000))
    return (least, chance.choice((least, min(100000, least + 3), 100000)))


def chance_uses(chance, most):
    names = chance_names(chance, chance.randint(0, most))
    return [(name, chance.randint(1, 8), chance.choice((0, 1, 180, 1000))) for name in names]


def chance_step(chance, name, most_uses):
    least, most = chance_lengths(chance)
    second = None
    if chance.random() < 0.5:
        second = (*chance_lengths(chance), chance_uses(chance, most_uses))
    rest = (chance_uses(chance, most_uses), second)
    kind = chance.choice((Cut, Rest, Warm))
    if kind is Warm:
        return Warm(name, least, most, chance_amount(chance), *rest)
    return kind(name, least, most, *rest)


def chance_link(chance, many):
    word = chance.choice(("after", "within", "apart"))
    at, other = chance.sample(range(many), 2)
    turns = chance.choice((0, 1, 50, 100000)) if word == "within" else 0
    return (word, at, other, turns)


def chance_recipe(chance, most=12):
    """A recipe within all bounds of its text."""
    takes = [(name, chance_amount(chance)) for name in chance_names(chance, chance.randint(0, most))]
    steps = [chance_step(chance, name, most) for name in chance_names(chance, chance.randint(0, most))]
    links = []
    if len(steps) > 1:
        links = [chance_link(chance, len(steps)) for _ in range(chance.randint(0, 2 * most))]
    return Recipe(chance_name(chance), chance.choice((1, 2, 999, 1000)), takes, steps, links)


def net_shown(net):
    return copy.deepcopy((net.tools, net.tasks, net.arcs, net.apart, net.moments))


def chance_way(chance, tools):
    least = chance.randint(1, 4)
    names = chance.sample(sorted(tools), chance.randint(0, len(tools)))
    uses = [(name, chance.randint(1, tools[name]), chance.choice((0, 0, 5))) for name in names]
    return (least, least + chance.randint(0, 3), uses)


def chance_net(chance, most_tasks=4):
    """A small net, with few tools and short ways, so that plans by chance both fit and don't."""
    tools = {name: chance.randint(1, 3) for name in chance.sample(["pot", "axe", "oven"], chance.randint(0, 3))}
    tasks = []
    for _ in range(chance.randint(0, most_tasks)):
        tasks.append([chance_way(chance, tools) for _ in range(chance.choice((1, 1, 2)))])
    moments = chance.choice((0, 0, 1, 2))
    points = 2 * len(tasks) + moments
    arcs = []
    if points > 0:
        for _ in range(chance.choice((0, 0, 1, 4))):
            arcs.append((chance.randrange(points), chance.randrange(points), chance.randint(-9, 1)))
    apart = []
    if len(tasks) > 1:
        apart = [tuple(chance.sample(range(len(tasks)), 2)) for _ in range(chance.choice((0, 0, 1, 2)))]
    return Net(tools, tasks, arcs, apart, moments)


def chance_plan(chance, net, latest=12):
    """A plan of the net whose lengths are mostly those of its ways."""
    runs = []
    for ways in net.tasks:
        way = chance.randrange(len(ways))
        begin = chance.randint(-1 if chance.random() < 0.1 else 0, latest)
        length = chance.randint(ways[way][0], ways[way][1])
        if chance.random() < 0.05:
            length = chance.randint(-2, 9)
        runs.append((begin, begin + length, way))
    times = [chance.randint(-1 if chance.random() < 0.1 else 0, latest + 6) for _ in range(net.moments)]
    return (runs, times)


def chance_case(chance, net):
    """A case of the net, with some ways picked and few orders."""
    picks = [chance.choice((None, chance.randrange(len(ways)))) for ways in net.tasks]
    orders = []
    if len(net.tasks) > 1:
        orders = [tuple(chance.sample(range(len(net.tasks)), 2)) for _ in range(chance.choice((0, 0, 1, 2)))]
    return (picks, orders)


def total_by_words(arcs, chain):
    """A chain's total, arc by arc."""
    total = 0
    for k in range(len(chain) - 1):
        lags = [arc[2] for arc in arcs if arc[:2] == (chain[k], chain[k + 1])]
        if not lags:
            return None
        total += sorted(lags)[-1]
    return total


def simple_chains(arcs, chain):
    """This chain and all that go on from it, without a point twice."""
    found = [chain]
    for point in sorted({arc[1] for arc in arcs if arc[0] == chain[-1]} - set(chain)):
        found.extend(simple_chains(arcs, chain + [point]))
    return found


def all_chains(points, arcs):
    """All chains of one point or more, without a point twice."""
    return [chain for point in range(points) for chain in simple_chains(arcs, [point])]


def has_ring_above_0(points, arcs):
    for chain in all_chains(points, arcs):
        total = total_by_words(arcs, chain + chain[:1])
        if total is not None and total > 0:
            return True
    return False


def tight_net(chance, most_tasks, moments=True):
    """A small net in which runs have little room, so that now and then nothing fits."""
    net = chance_net(chance, most_tasks)
    points = 2 * len(net.tasks) + (net.moments if moments else 0)
    arcs = [arc for arc in net.arcs if max(arc[:2]) < points]
    if points > 1:
        for _ in range(chance.randint(0, 4)):
            arcs.append((*chance.sample(range(points), 2), chance.randint(-4, 2)))
    return Net(net.tools, net.tasks, arcs, net.apart, net.moments if moments else 0)


def ways_by_words(net, case, i):
    ways = net.tasks[i]
    return ways if case[0][i] is None else [ways[case[0][i]]]


def arcs_by_words(net, case):
    """The arcs of a case, as a dict from pairs of points to the greatest lag."""
    told = list(net.arcs)
    for i in range(len(net.tasks)):
        ways = ways_by_words(net, case, i)
        told.append((2 * i, 2 * i + 1, min(way[0] for way in ways)))
        told.append((2 * i + 1, 2 * i, -max(way[1] for way in ways)))
    told.extend((2 * i + 1, 2 * j, 0) for i, j in case[1])
    lags = {}
    for p, q, lag in told:
        lags[p, q] = max(lag, lags.get((p, q), lag))
    return lags


def times_by_words(points, lags):
    """The least times from 0 on that keep the arcs; None where there are none."""
    times = [0] * points
    for _ in range(points + 1):
        before = list(times)
        for (p, q), lag in lags.items():
            times[q] = max(times[q], times[p] + lag)
        if times == before:
            return times
    return None


def clash_by_words(net, case, some):
    """Whether the tasks clash in the case."""
    if len(some) < 2 or len(set(some)) < len(some) or not set(some) <= set(range(len(net.tasks))):
        return False
    uses = {i: [{use[0]: use for use in way[2]} for way in ways_by_words(net, case, i)] for i in some}
    for i, j in itertools.combinations(some, 2):
        if (i, j) in net.apart or (j, i) in net.apart:
            return True
        if all(
            any(one[tool][2] != other[tool][2] for tool in one if tool in other)
            for one in uses[i]
            for other in uses[j]
        ):
            return True
    for tool, number in net.tools.items():
        if sum(min(way[tool][1] if tool in way else 0 for way in uses[i]) for i in some) > number:
            return True
    return False


def along(lags, chain):
    """A chain's total by the lags; None where there is a gap."""
    steps = [lags.get(step) for step in zip(chain, chain[1:])]
    return None if None in steps else sum(steps)


def bound_by_words(net, case, row):
    """What a chain, ring or full row shows in the case; None where it shows nothing."""
    lags, points, many = arcs_by_words(net, case), set(range(2 * len(net.tasks) + net.moments)), len(net.tasks)
    if row[0] in ("chain", "ring"):
        chain = row[1] if row[0] == "chain" else row[1] + row[1][:1]
        if not set(chain) <= points or (row[0] == "ring" and not chain):
            return None
        return along(lags, chain)
    _, tool, fronts, backs = row
    if tool not in net.tools or not fronts or len(fronts) != len(backs) or [] in fronts + backs:
        return None
    ends = [(front[-1], back[0]) for front, back in zip(fronts, backs)]
    tasks = [i for end in ends for i in range(many) if end == (2 * i, 2 * i + 1)]
    if len(set(tasks)) < len(ends) or not all(set(chain) <= points for chain in fronts + backs):
        return None
    heads, tails = [along(lags, chain) for chain in fronts], [along(lags, chain) for chain in backs]
    if None in heads + tails:
        return None
    work = 0
    for i in tasks:
        ways = ways_by_words(net, case, i)
        work += min(way[0] * sum(use[1] for use in way[2] if use[0] == tool) for way in ways)
    return min(heads) + min(tails) + (work + net.tools[tool] - 1) // net.tools[tool]


def cases_met(net, paper):
    """A list of tuples (case, row, bound), row by row as a paper is read; the bound None for split and ways rows. None
    where a row is not right, or shows nothing, or where rows or cases are left."""
    pile = [([None] * len(net.tasks), [])]
    met = []
    for row in paper:
        if not pile:
            return None
        picks, orders = case = pile.pop()
        bound = None
        if row[0] == "split":
            if not clash_by_words(net, case, row[1]) or any(set(pair) <= set(row[1]) for pair in orders):
                return None
            cases = [(picks, orders + [pair]) for pair in itertools.permutations(row[1], 2)]
            pile.extend(reversed(cases))
        elif row[0] == "ways":
            i = row[1]
            if i not in range(len(net.tasks)) or len(net.tasks[i]) < 2 or picks[i] is not None:
                return None
            cases = [(picks[:i] + [way] + picks[i + 1 :], orders) for way in (0, 1)]
            pile.extend(reversed(cases))
        else:
            bound = bound_by_words(net, case, row)
            if bound is None or (row[0] == "ring" and bound <= 0):
                return None
        met.append((case, row, bound))
    return None if pile else met
