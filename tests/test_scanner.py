"""papersat/scanner.py: point 16."""

import unittest

from papersat.errors import BadText
from papersat.scanner import scan


class ScannerTest(unittest.TestCase):
    def test_words_and_places(self):
        self.assertEqual(scan("(and p (not q))"), [
            ("(", 0), ("and", 1), ("p", 5), ("(", 7), ("not", 8), ("q", 12), (")", 13), (")", 14),
        ])
        self.assertEqual(scan("f"), [("f", 0)])
        self.assertEqual(scan("  ab\n\ncd "), [("ab", 2), ("cd", 6)])
        self.assertEqual(scan("a(b)c"), [("a", 0), ("(", 1), ("b", 2), (")", 3), ("c", 4)])
        self.assertEqual(scan(")(("), [(")", 0), ("(", 1), ("(", 2)])
        self.assertEqual(scan("a b"), [("a", 0), ("b", 2)])

    def test_kinds_of_results(self):
        found = scan("(a b)")
        self.assertIs(type(found), list)
        self.assertTrue(all(type(pair) is tuple for pair in found))
        found.clear()
        self.assertEqual(len(scan("(a b)")), 4)

    def test_separators_alone(self):
        for text in ("", " ", "\n", "   ", " \n \n", "\n\n"):
            self.assertEqual(scan(text), [])

    def test_every_other_character_is_of_a_word(self):
        for code in range(33, 127):
            char = chr(code)
            if char not in "()":
                self.assertEqual(scan(f"a{char}b {char}"), [(f"a{char}b", 0), (char, 4)])

    def test_wrong_characters(self):
        for text, place in (
            ("\t", 0), ("a\t", 1), ("\ta", 0), ("(a \t b)", 3), ("a\tb\tc", 1), ("a\n\t", 2), ("((\t", 2),
            (" " * 50 + "\t", 50), ("a\r\n", 1), ("ab\x00", 2), ("a\x7f", 1), ("\u00e9", 0), ("a\u00a0b", 1),
        ):
            with self.assertRaises(BadText) as caught:
                scan(text)
            self.assertEqual(caught.exception.place, place, repr(text))

    def test_long_texts(self):
        text = "(ab " * 10000
        words = scan(text)
        self.assertEqual(len(words), 20000)
        self.assertEqual(words[-1], ("ab", len(text) - 3))
