import itertools
import re
import unittest

from stovework.rows import number_of, words_of

GREAT = 10**30 - 1

NO_NUMBERS = (
    "",
    "00",
    "01",
    "0012",
    "-1",
    "-0",
    "+1",
    "1.0",
    "1e3",
    "1_000",
    "1,000",
    "1/2",
    "0x1",
    "1 ",
    " 1",
    " ",
    "1 1",
    "1\n",
    "\n1",
    "a",
    "1a",
    "a1",
    "None",
    "1" * 31,
    "0" * 30,
    "0" + "1" * 29,
    "1" + "0" * 30,
    "1" * 5000,
)


class WordsOf(unittest.TestCase):
    def test_words(self):
        self.assertEqual(words_of("dish"), ["dish"])
        self.assertEqual(words_of("~"), ["~"])
        self.assertEqual(words_of("take egg 1+1/2"), ["take", "egg", "1+1/2"])
        self.assertEqual(words_of("a a a"), ["a", "a", "a"])
        self.assertEqual(words_of("Big! #2, :;"), ["Big!", "#2,", ":;"])

    def test_no_rows_of_words(self):
        for text in ("", " ", "  ", " dish", "dish ", " dish ", "dish  soup", "a b  c", "a b ", " a b", "a   b"):
            with self.subTest(text=text):
                self.assertIsNone(words_of(text))

    def test_all_short_texts(self):
        for many in range(7):
            for signs in itertools.product("a~ ", repeat=many):
                text = "".join(signs)
                found = re.fullmatch("[^ ]+( [^ ]+)*", text)
                self.assertEqual(words_of(text), re.findall("[^ ]+", text) if found else None, text)

    def test_every_sign_but_the_blank_is_one_of_a_word(self):
        for code in range(ord("!"), ord("~") + 1):
            self.assertEqual(words_of(f"a {chr(code)} b{chr(code)}"), ["a", chr(code), "b" + chr(code)])

    def test_a_new_list_each_time(self):
        words_of("a b").clear()
        self.assertEqual(words_of("a b"), ["a", "b"])
        self.assertIs(type(words_of("a b")), list)


class NumberOf(unittest.TestCase):
    def test_numbers(self):
        self.assertEqual(number_of("0", 0, 0), 0)
        self.assertEqual(number_of("0", 0, 10), 0)
        self.assertEqual(number_of("7", 0, 10), 7)
        self.assertEqual(number_of("10", 0, 10), 10)
        self.assertEqual(number_of("1000", 1, 1000), 1000)
        self.assertEqual(number_of("1234567890", 0, 10**15), 1234567890)
        self.assertIs(type(number_of("1", 0, 1)), int)

    def test_every_number_is_read_from_its_figures(self):
        for number in range(0, 2100):
            self.assertEqual(number_of(str(number), 0, 10**4), number)

    def test_thirty_figures_and_thirty_one(self):
        self.assertEqual(number_of("9" * 30, 0, GREAT), GREAT)
        self.assertEqual(number_of("1" + "0" * 29, 0, GREAT), 10**29)
        self.assertEqual(number_of("9" * 30, 0, 10**60), GREAT)
        self.assertIsNone(number_of("1" + "0" * 30, 0, 10**60))
        self.assertIsNone(number_of("9" * 31, 0, 10**60))

    def test_what_writes_no_number(self):
        for word in NO_NUMBERS:
            with self.subTest(word=word):
                self.assertIsNone(number_of(word, 0, 10**60))
                self.assertIsNone(number_of(word, -(10**60), 10**60))

    def test_every_sign_that_is_no_figure(self):
        for code in range(ord(" "), ord("~") + 1):
            sign = chr(code)
            if sign not in "0123456789":
                for word in (sign, "1" + sign, sign + "1", "1" + sign + "1"):
                    self.assertIsNone(number_of(word, -100, 10**6), word)

    def test_low_and_high_and_one_beyond_each(self):
        for low, high in ((1, 8), (0, 1000), (5, 5), (10, 100000), (10**29, 10**29 + 1), (0, 0)):
            self.assertEqual(number_of(str(low), low, high), low)
            self.assertEqual(number_of(str(high), low, high), high)
            self.assertIsNone(number_of(str(high + 1), low, high))
            if low > 0:
                self.assertIsNone(number_of(str(low - 1), low, high))

    def test_nothing_lies_between_when_high_is_below_low(self):
        for number in range(8):
            self.assertIsNone(number_of(str(number), 5, 3))


if __name__ == "__main__":
    unittest.main()
