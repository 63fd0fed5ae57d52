import unittest

from stovework.figures import read_figures


class Figures(unittest.TestCase):
    def test_read(self):
        for number in (0, 1, 9, 10, 100, 907, 10 ** 29, 10 ** 30 - 1):
            told = read_figures(str(number))
            self.assertIs(type(told), int)
            self.assertEqual(told, number)

    def test_too_long(self):
        for word in ("1" * 31, "9" * 5000, "0" * 31):
            self.assertIsNone(read_figures(word))

    def test_a_nought_ahead(self):
        for word in ("00", "01", "007", "0" * 30):
            self.assertIsNone(read_figures(word))

    def test_other_signs(self):
        for word in ("", "-1", "+1", " 1", "1 ", "1\n", "\n", "1_0", "0x1", "a", "1.0", "\u0661", "\u00b2", "\uff11"):
            self.assertIsNone(read_figures(word), word)


if __name__ == "__main__":
    unittest.main()
