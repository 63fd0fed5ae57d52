import unittest
from fractions import Fraction
from math import gcd

from stovework.amounts import amount_text, read_amount
from stovework.errors import NoAmount

THIRTY = "123456789012345678901234567890"
THIRTY_MORE = "123456789012345678901234567891"
THIRTY_ONE = "1234567890123456789012345678901"

# Each written by hand, in each of the three forms.
WRITTEN = (
    ("0", (0, 1)),
    ("1", (1, 1)),
    ("9", (9, 1)),
    ("10", (10, 1)),
    ("12", (12, 1)),
    ("1000", (1000, 1)),
    ("1/2", (1, 2)),
    ("3/4", (3, 4)),
    ("9/10", (9, 10)),
    ("1/100", (1, 100)),
    ("1+1/2", (3, 2)),
    ("2+3/4", (11, 4)),
    ("10+9/10", (109, 10)),
    ("100+1/3", (301, 3)),
    (THIRTY, (int(THIRTY), 1)),
    ("9" * 30, (10 ** 30 - 1, 1)),
    ("1/" + THIRTY, (1, int(THIRTY))),
    (THIRTY + "/" + THIRTY_MORE, (int(THIRTY), int(THIRTY_MORE))),
    (THIRTY + "+1/2", (2 * int(THIRTY) + 1, 2)),
    ("1+" + THIRTY + "/" + THIRTY_MORE, (int(THIRTY) + int(THIRTY_MORE), int(THIRTY_MORE))),
)


class Written(unittest.TestCase):
    def test_by_hand(self):
        for text, amount in WRITTEN:
            with self.subTest(text=text):
                told = amount_text(amount)
                self.assertIs(type(told), str)
                self.assertEqual(told, text)

    def test_of_more_than_a_hundred_figures(self):
        whole = 10 ** 150 + 7
        bottom = 10 ** 120
        self.assertEqual(amount_text((whole, 1)), str(whole))
        self.assertEqual(amount_text((7, bottom)), "7/1" + "0" * 120)
        self.assertEqual(amount_text((bottom - 1, bottom)), "9" * 120 + "/1" + "0" * 120)
        self.assertEqual(amount_text((whole * bottom + 7, bottom)), str(whole) + "+7/1" + "0" * 120)

    def test_of_a_thousand_figures(self):
        self.assertEqual(amount_text((10 ** 999, 1)), "1" + "0" * 999)
        self.assertEqual(amount_text((10 ** 999 + 1, 10 ** 999)), "1+1/1" + "0" * 999)
        self.assertEqual(amount_text((1, 10 ** 999)), "1/1" + "0" * 999)


class Read(unittest.TestCase):
    def test_by_hand(self):
        for text, amount in WRITTEN:
            with self.subTest(text=text):
                told = read_amount(text)
                self.assertIs(type(told), tuple)
                self.assertEqual([type(part) for part in told], [int, int])
                self.assertEqual(told, amount)

    def test_what_is_read_is_written_again(self):
        for text, amount in WRITTEN:
            self.assertEqual(amount_text(read_amount(text)), text)

    def test_what_is_written_is_read_again(self):
        for bottom in range(1, 13):
            for top in range(0, 60):
                value = Fraction(top, bottom)
                amount = (value.numerator, value.denominator)
                self.assertEqual(read_amount(amount_text(amount)), amount)

    def test_just_the_texts_of_the_three_forms(self):
        """Of all short texts of these numbers, those and only those are read that the words of the promise tell."""
        for whole in ("", "0", "1", "2", "01"):
            for top in range(0, 7):
                for bottom in range(0, 7):
                    text = f"{whole}+{top}/{bottom}" if whole else f"{top}/{bottom}"
                    right = whole in ("", "1", "2") and 1 <= top < bottom and gcd(top, bottom) == 1
                    with self.subTest(text=text):
                        if right:
                            value = int(whole or "0") + Fraction(top, bottom)
                            self.assertEqual(read_amount(text), (value.numerator, value.denominator))
                        else:
                            self.assertRaises(NoAmount, read_amount, text)


class Refused(unittest.TestCase):
    def assert_refused(self, things):
        for thing in things:
            with self.subTest(thing=thing):
                self.assertRaises(NoAmount, read_amount, thing)

    def test_thirty_one_figures(self):
        self.assert_refused(
            (
                THIRTY_ONE,
                "1/" + THIRTY_ONE,
                THIRTY_ONE + "/" + THIRTY_ONE[:-1] + "2",
                THIRTY_ONE + "+1/2",
                "1+1/" + THIRTY_ONE,
                "1+" + THIRTY_ONE + "/" + THIRTY_ONE[:-1] + "2",
                "9" * 5000,
                "1/" + "9" * 5000,
            )
        )

    def test_a_nought_ahead(self):
        self.assert_refused(("00", "01", "012", "0" * 30, "01/2", "1/02", "01+1/2", "1+01/2", "1+1/02", "00+1/2"))

    def test_a_top_of_nought(self):
        self.assert_refused(("0/1", "0/2", "0/0", "1+0/1", "1+0/2", "0+0/1"))

    def test_a_bottom_of_nought(self):
        self.assert_refused(("1/0", "1+1/0", "0+1/0", "5/0"))

    def test_a_top_as_great_as_the_bottom_or_greater(self):
        self.assert_refused(("1/1", "2/2", "3/2", "3/1", "12/5", "1+1/1", "1+2/2", "1+3/2", THIRTY_MORE + "/" + THIRTY))

    def test_not_in_lowest_terms(self):
        self.assert_refused(("2/4", "3/9", "6/8", "1+2/4", "5+10/15", THIRTY + "/2" + THIRTY[1:-1] + "0"))

    def test_a_whole_of_nought_ahead(self):
        self.assert_refused(("0+1/2", "0+3/4", "0+0", "0+1"))

    def test_a_number_without_figures(self):
        self.assert_refused(("/", "+", "1/", "/2", "+1/2", "1+", "1+/2", "1+1/", "+/", "1+/", "1/+2"))

    def test_other_forms(self):
        self.assert_refused(("1+2", "1+1", "1/2+1", "1/2/3", "1+1+1/2", "1++1/2", "1//2", "1+1/2/3", "1/2+1/3", "1+1/2+"))

    def test_other_signs(self):
        for text in ("12", "3/4", "1+1/2"):
            for sign in ("-", "+", " ", "\n", "\t", "\r", "_", ".", "a", "\x00", "\u00b2", "\u0663", "\uff11", "\u00bd"):
                for place in range(len(text) + 1):
                    changed = text[:place] + sign + text[place:]
                    # A + within 12 or 3/4 can make no amount either: 1+2, 3+/4, 3/+4.
                    with self.subTest(changed=changed):
                        self.assertRaises(NoAmount, read_amount, changed)

    def test_no_signs(self):
        self.assert_refused(("", " ", "\n"))

    def test_no_text(self):
        self.assert_refused(
            (0, 1, 12, -1, 10 ** 50, 1.5, 0.0, 1j, True, False, None, [], ["1"], ["1", "/", "2"], (), (1, 2), ("1",))
        )
        self.assert_refused((b"", b"1", b"1/2", bytearray(b"1"), {}, {"1": True}, {"1"}, object(), str, Fraction(1, 2)))


if __name__ == "__main__":
    unittest.main()
