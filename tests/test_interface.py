import inspect
import unittest

from stovework import amounts, cases, chains, clashes, dishes, heaps, larders, names, needs, nets, packs, papers, parts
from stovework import plans, ratios, reader, recipes, rosters, rows, stands, steps, stretches, wholes

SIGNATURES = (
    (wholes.is_whole, "(thing)"),
    (wholes.divisor, "(one, other)"),
    (ratios.fraction, "(top, bottom=1)"),
    (ratios.is_fraction, "(thing)"),
    (ratios.plus, "(one, other)"),
    (ratios.minus, "(one, other)"),
    (ratios.product, "(one, other)"),
    (ratios.quotient, "(one, other)"),
    (ratios.is_less, "(one, other)"),
    (ratios.round_up, "(one)"),
    (ratios.round_down, "(one)"),
    (packs.packs_for, "(need, size, have=None)"),
    (amounts.amount_text, "(amount)"),
    (amounts.read_amount, "(text)"),
    (names.is_name, "(thing)"),
    (parts.all_inside, "(parts, good)"),
    (parts.chain_down, "(parts, good, goals)"),
    (stands.ways_out, "(stands, good)"),
    (larders.Larder, "()"),
    (larders.Larder.part, "(self, good, other)"),
    (larders.Larder.stand, "(self, good, other, ratio=None)"),
    (larders.Larder.bar, "(self, good)"),
    (larders.Larder.allow, "(self, good)"),
    (larders.Larder.known, "(self)"),
    (larders.Larder.held, "(self, good)"),
    (larders.Larder.barred, "(self, good)"),
    (larders.Larder.stand_in, "(self, good)"),
    (steps.Step, "(name, least, most, uses=None, second=None)"),
    (steps.Cut, "(name, least, most, uses=None, second=None)"),
    (steps.Rest, "(name, least, most, uses=None, second=None)"),
    (steps.Warm, "(name, least, most, fill, uses=None, second=None)"),
    (steps.Step.word, "(self)"),
    (steps.Step.span, "(self, least, most, factor)"),
    (steps.Step.rounds, "(self, factor, size)"),
    (steps.Step.grown, "(self, factor)"),
    (recipes.Recipe, "(name, plates, takes, steps, links)"),
    (recipes.recipe_text, "(recipe)"),
    (rows.words_of, "(row)"),
    (rows.number_of, "(word, low, high)"),
    (reader.read_recipe, "(text)"),
    (dishes.factor_of, "(recipe, plates)"),
    (dishes.tasks_of, "(recipe, plates, size=None)"),
    (dishes.links_of, "(recipe, tasks)"),
    (dishes.plates_of, "(recipe, tasks)"),
    (needs.chosen, "(recipe, larder)"),
    (needs.needs_of, "(dishes, larder)"),
    (needs.bought_of, "(needed, sizes, shelf=None)"),
    (nets.Net, "(tools, tasks, arcs, apart=None, moments=0)"),
    (nets.points_of, "(net)"),
    (plans.is_plan, "(net, plan)"),
    (plans.time_of, "(plan, point)"),
    (plans.runs_meet, "(one, other)"),
    (plans.breaches, "(net, plan)"),
    (plans.plan_fits, "(net, plan)"),
    (plans.length_of, "(plan)"),
    (heaps.Heap, "(rows=None)"),
    (heaps.Heap.add, "(self, thing)"),
    (heaps.Heap.take_least, "(self)"),
    (heaps.Heap.many, "(self)"),
    (rosters.roster, "(net, plan)"),
    (chains.lag_between, "(arcs, p, q)"),
    (chains.chain_total, "(arcs, chain)"),
    (chains.ring_total, "(arcs, ring)"),
    (chains.earliest_times, "(points, arcs)"),
    (chains.tail_chains, "(points, arcs)"),
    (cases.start_case, "(net)"),
    (cases.open_ways, "(net, case, i)"),
    (cases.obeys, "(case, plan)"),
    (cases.arcs_of, "(net, case)"),
    (cases.want_of, "(net, case, i, tool)"),
    (cases.work_of, "(net, case, i, tool)"),
    (cases.unlike_heats, "(net, case, i, j)"),
    (stretches.stretch_total, "(net, case, tool, fronts, backs)"),
    (stretches.best_stretch, "(net, case)"),
    (clashes.clashes, "(net, case, some)"),
    (papers.parted, "(net, case, row)"),
    (papers.bound_of, "(net, case, row)"),
    (papers.shuts, "(net, case, low, row)"),
    (papers.lets_by, "(net, low, paper)"),
    (papers.inner_rows, "(paper)"),
)


class Interface(unittest.TestCase):
    def test_arguments_stand_as_the_document_tells(self):
        for function, arguments in SIGNATURES:
            with self.subTest(function=function.__name__):
                self.assertEqual(str(inspect.signature(function)), arguments)


if __name__ == "__main__":
    unittest.main()
