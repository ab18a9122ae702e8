"""Point 200: words."""

import unittest

from exactkinds.words import is_word


class Words(unittest.TestCase):

    def test_words(self):
        for value in ("a", "Z", "z9", "A0b1C2", "maker", "falls", "abcdefghijkl", "a23456789012"):
            self.assertIs(is_word(value), True, value)

    def test_each_letter_and_digit(self):
        for letter in "ABCDEFGHIJKLMNOPQRSTUVWXYZabcdefghijklmnopqrstuvwxyz":
            self.assertIs(is_word(letter), True, letter)
            self.assertIs(is_word("x" + letter), True, letter)
        for digit in "0123456789":
            self.assertIs(is_word("x" + digit), True, digit)
            self.assertIs(is_word(digit + "x"), False, digit)
            self.assertIs(is_word(digit), False, digit)

    def test_no_other_sign(self):
        others = [chr(code) for code in range(128) if not chr(code).isalnum()]
        for sign in others + ["\u00e9", "\u0410", "\u0663", "\u00b2", "\ud800"]:
            for value in (sign, "a" + sign, sign + "a", "a" + sign + "b"):
                self.assertIs(is_word(value), False, repr(value))

    def test_lengths(self):
        self.assertIs(is_word(""), False)
        self.assertIs(is_word("a" * 12), True)
        self.assertIs(is_word("a" * 13), False)
        self.assertIs(is_word("a" * 6000), False)

    def test_any_value(self):
        for value in (None, True, False, 0, 1, (), [], {}, ("a",), ["a"], {"a": "a"}, ("a", "b")):
            self.assertIs(is_word(value), False, value)


if __name__ == "__main__":
    unittest.main()
