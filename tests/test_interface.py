import inspect
import unittest

from stovework import packs, ratios, wholes

SIGNATURES = (
    (wholes.is_whole, "(thing)"),
    (wholes.divisor, "(one, other)"),
    (ratios.fraction, "(top, bottom=1)"),
    (ratios.is_fraction, "(thing)"),
    (ratios.plus, "(one, other)"),
    (ratios.minus, "(one, other)"),
    (ratios.product, "(one, other)"),
    (ratios.quotient, "(one, other)"),
    (ratios.is_less, "(one, other)"),
    (ratios.round_up, "(one)"),
    (ratios.round_down, "(one)"),
    (packs.packs_for, "(need, size, have=None)"),
)


class Interface(unittest.TestCase):
    def test_arguments_stand_as_the_document_tells(self):
        for function, arguments in SIGNATURES:
            with self.subTest(function=function.__name__):
                self.assertEqual(str(inspect.signature(function)), arguments)


if __name__ == "__main__":
    unittest.main()
