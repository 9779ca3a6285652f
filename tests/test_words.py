"""papersat/words.py: points 6 and 10."""

import unittest

from papersat.words import RESERVED, is_name, is_ratio_word, is_whole_word

LETTERS = "abcdefghijklmnopqrstuvwxyzABCDEFGHIJKLMNOPQRSTUVWXYZ"
DIGITS = "0123456789"
FOREIGN = ["\u00e9", "\u00b2", "\u0663", "\uff15", "\u0391"]
OTHERS = [chr(code) for code in range(32, 127) if chr(code) not in LETTERS + DIGITS + "_"] + ["\n", "\t"]


class NameTest(unittest.TestCase):
    def test_reserved_in_order(self):
        words = "truth whole ratio true false not and or imply if distinct let"
        self.assertEqual(RESERVED, tuple(words.split()))

    def test_reserved_are_no_names(self):
        for word in RESERVED:
            self.assertIs(is_name(word), False, word)
            self.assertIs(is_name(word + "s"), True)
            self.assertIs(is_name(word.upper()), True)

    def test_first_character(self):
        for char in LETTERS:
            self.assertIs(is_name(char), True, char)
            self.assertIs(is_name(char + "1"), True, char)
        for char in [*DIGITS, "_", *OTHERS]:
            self.assertIs(is_name(char), False, char)
            self.assertIs(is_name(char + "a"), False, char)

    def test_later_characters(self):
        for char in LETTERS + DIGITS + "_":
            self.assertIs(is_name("a" + char), True, char)
            self.assertIs(is_name("a" + char + "b"), True, char)
        for char in OTHERS:
            self.assertIs(is_name("a" + char), False, char)
            self.assertIs(is_name("a" + char + "b"), False, char)

    def test_edges(self):
        for text in ("", " ", "a b", " a", "a ", "a\n", "\na", "a-b", "a.b", "1", "=", "<=", "+", "*", "<", "(", ")"):
            self.assertIs(is_name(text), False, text)
        for char in FOREIGN:
            self.assertIs(is_name(char), False)
            self.assertIs(is_name("a" + char), False)
        for text in ("a", "Z", "a_", "a__", "v7", "is", "else", "given", "x" * 24, "x" * 25, "x" * 3000):
            self.assertIs(is_name(text), True, text)


class WholeWordTest(unittest.TestCase):
    def test_good(self):
        for text in ("0", "1", "9", "10", "100", "907", "-1", "-9", "-10", "-907", "9" * 18, "-" + "9" * 60):
            self.assertIs(is_whole_word(text), True, text)

    def test_bad(self):
        for text in (
            "", "-", "-0", "00", "01", "-01", "+1", "+0", "--1", "1-", "1 ", " 1", "-1 ", "- 1", "1\n", "\n1",
            "1_0", "_1", "1.0", "1e5", "0x1", "1/1", "a", "1a", "a1", "-a", "(1", "0 0", "0\n", "-1\n",
        ):
            self.assertIs(is_whole_word(text), False, text)

    def test_foreign_digits(self):
        for char in FOREIGN:
            for text in (char, "-" + char, "1" + char):
                self.assertIs(is_whole_word(text), False)
                self.assertIs(is_ratio_word(text + "/1"), False)
                self.assertIs(is_ratio_word("1/" + text), False)

    def test_every_short_word(self):
        good = {str(number) for number in range(-99, 1000)}
        signs = "-+01 29_/\na"
        words = [a + b + c for a in signs for b in [*signs, ""] for c in [*signs, ""]]
        for word in words:
            self.assertIs(is_whole_word(word), word in good, word)


class RatioWordTest(unittest.TestCase):
    def test_good(self):
        for text in ("0/1", "1/1", "1/2", "-1/2", "2/4", "10/10", "0/5", "-3/100", "9" * 60 + "/" + "9" * 60):
            self.assertIs(is_ratio_word(text), True, text)

    def test_bad(self):
        for text in (
            "", "/", "1", "0", "-1", "1/", "/1", "1/0", "0/0", "1/-1", "-1/-1", "1/01", "01/1", "-0/1", "+1/1",
            "1/+1", "1//1", "1/1/1", "1/1/", "1 /1", "1/ 1", " 1/1", "1/1 ", "1/1\n", "1/\n1", "1_0/1", "1/1_0",
            "a/1", "1/a", "--1/2", "1/00", "1:2", "-/1", "1.0/2", "0",
        ):
            self.assertIs(is_ratio_word(text), False, text)
