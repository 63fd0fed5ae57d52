import inspect
import unittest

from stovework import amounts, dishes, heaps, larders, names, needs, nets, packs, parts, plans, ratios, reader, recipes
from stovework import rosters, rows, stands, steps, wholes

SIGNATURES = (
    (wholes.is_whole, "(thing)"),
    (wholes.divisor, "(one, other)"),
    (ratios.fraction, "(top, bottom=1)"),
    (ratios.is_fraction, "(thing)"),
    (ratios.plus, "(one, other)"),
    (ratios.minus, "(one, other)"),
    (ratios.product, "(one, other)"),
    (ratios.quotient, "(one, other)"),
    (ratios.is_less, "(one, other)"),
    (ratios.round_up, "(one)"),
    (ratios.round_down, "(one)"),
    (packs.packs_for, "(need, size, have=None)"),
    (amounts.amount_text, "(amount)"),
    (amounts.read_amount, "(text)"),
    (names.is_name, "(thing)"),
    (parts.all_inside, "(parts, good)"),
    (parts.chain_down, "(parts, good, goals)"),
    (stands.ways_out, "(stands, good)"),
    (larders.Larder, "()"),
    (larders.Larder.part, "(self, good, other)"),
    (larders.Larder.stand, "(self, good, other, ratio=None)"),
    (larders.Larder.bar, "(self, good)"),
    (larders.Larder.allow, "(self, good)"),
    (larders.Larder.known, "(self)"),
    (larders.Larder.held, "(self, good)"),
    (larders.Larder.barred, "(self, good)"),
    (larders.Larder.stand_in, "(self, good)"),
    (steps.Step, "(name, least, most, uses=None, second=None)"),
    (steps.Cut, "(name, least, most, uses=None, second=None)"),
    (steps.Rest, "(name, least, most, uses=None, second=None)"),
    (steps.Warm, "(name, least, most, fill, uses=None, second=None)"),
    (steps.Step.word, "(self)"),
    (steps.Step.span, "(self, least, most, factor)"),
    (steps.Step.rounds, "(self, factor, size)"),
    (steps.Step.grown, "(self, factor)"),
    (recipes.Recipe, "(name, plates, takes, steps, links)"),
    (recipes.recipe_text, "(recipe)"),
    (rows.words_of, "(row)"),
    (rows.number_of, "(word, low, high)"),
    (reader.read_recipe, "(text)"),
    (dishes.factor_of, "(recipe, plates)"),
    (dishes.tasks_of, "(recipe, plates, size=None)"),
    (dishes.links_of, "(recipe, tasks)"),
    (dishes.plates_of, "(recipe, tasks)"),
    (needs.chosen, "(recipe, larder)"),
    (needs.needs_of, "(dishes, larder)"),
    (needs.bought_of, "(needed, sizes, shelf=None)"),
    (nets.Net, "(tools, tasks, arcs, apart=None, moments=0)"),
    (nets.points_of, "(net)"),
    (plans.is_plan, "(net, plan)"),
    (plans.time_of, "(plan, point)"),
    (plans.runs_meet, "(one, other)"),
    (plans.breaches, "(net, plan)"),
    (plans.plan_fits, "(net, plan)"),
    (plans.length_of, "(plan)"),
    (heaps.Heap, "(rows=None)"),
    (heaps.Heap.add, "(self, thing)"),
    (heaps.Heap.take_least, "(self)"),
    (heaps.Heap.many, "(self)"),
    (rosters.roster, "(net, plan)"),
)


class Interface(unittest.TestCase):
    def test_arguments_stand_as_the_document_tells(self):
        for function, arguments in SIGNATURES:
            with self.subTest(function=function.__name__):
                self.assertEqual(str(inspect.signature(function)), arguments)


if __name__ == "__main__":
    unittest.main()
