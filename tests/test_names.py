import string
import unittest

from stovework.names import is_name


class IsName(unittest.TestCase):
    def assert_told(self, things, told):
        for thing in things:
            with self.subTest(thing=thing):
                self.assertIs(is_name(thing), told)

    def test_each_letter_by_itself(self):
        self.assert_told(string.ascii_lowercase, True)

    def test_of_one_to_twelve_letters(self):
        self.assert_told(["z" * many for many in range(1, 13)], True)
        self.assert_told(("ox", "egg", "butter", "abcdefghijkl", "opqrstuvwxyz"), True)

    def test_of_none_and_of_thirteen(self):
        self.assert_told(("", "a" * 13, "abcdefghijklm", "a" * 14, "a" * 10000), False)

    def test_every_other_sign_by_itself(self):
        others = [chr(code) for code in range(0x300) if chr(code) not in string.ascii_lowercase]
        self.assert_told(others, False)

    def test_every_other_sign_amid_a_name(self):
        for sign in ("A", "Z", "0", "9", " ", "\n", "\t", "\r", "_", "-", "`", "{", "'", "\x00"):
            self.assert_told((sign + "egg", "e" + sign + "gg", "egg" + sign), False)

    def test_great_letters(self):
        self.assert_told(("Egg", "eGg", "egG", "EGG", "A"), False)

    def test_letters_beyond_a_to_z(self):
        self.assert_told(("\u00e4", "\u00df", "\u00e9gg", "cr\u00e8me", "\u0430", "\u03b1", "\u0131", "\uff41"), False)
        self.assert_told(("\u00aa", "\u2170", "\U0001d41a", "e\u0301"), False)

    def test_things_of_other_kinds(self):
        self.assert_told((True, False, None, 0, 1, 1.5, 1j, b"egg", bytearray(b"egg"), object(), str, len), False)
        self.assert_told(([], ["e"], ["egg"], (), ("e",), ("egg", "ham"), {}, {"e": True}, {"egg"}), False)


if __name__ == "__main__":
    unittest.main()
