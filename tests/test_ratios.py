"""papersat/ratios.py: points 5 and 6."""

import unittest
from fractions import Fraction
from math import gcd

from papersat.errors import BadRatio, BadText
from papersat.ratios import (
    compare, minus, opposite, over, parse_ratio, plus, ratio, ratio_text, times,
)

BIG = 10 ** 18
VALUES = [0, 1, -1, 2, -2, 3, 4, 6, -6, 9, 12, 35, BIG - 1, 1 - BIG, BIG - 11, 123456789012345678, -98765432109876543]


def pair(fraction):
    return (fraction.numerator, fraction.denominator)


RATIOS = sorted({pair(Fraction(p, q)) for p in VALUES for q in VALUES if q != 0})[::5] + [(0, 1), (1, 2), (-1, 2)]


class RatioTest(unittest.TestCase):
    def assert_lowest(self, a):
        self.assertIs(type(a), tuple)
        self.assertEqual(len(a), 2)
        self.assertIs(type(a[0]), int)
        self.assertIs(type(a[1]), int)
        self.assertGreaterEqual(a[1], 1)
        self.assertEqual(gcd(a[0], a[1]), 1)

    def test_lowest_terms(self):
        for p in VALUES:
            for q in VALUES:
                if q != 0:
                    self.assert_lowest(ratio(p, q))
                    self.assertEqual(ratio(p, q), pair(Fraction(p, q)))

    def test_examples(self):
        self.assertEqual(ratio(0, 7), (0, 1))
        self.assertEqual(ratio(0, -7), (0, 1))
        self.assertEqual(ratio(2, 4), (1, 2))
        self.assertEqual(ratio(-2, 4), (-1, 2))
        self.assertEqual(ratio(2, -4), (-1, 2))
        self.assertEqual(ratio(-2, -4), (1, 2))
        self.assertEqual(ratio(6, 3), (2, 1))

    def test_q_by_name_and_left_out(self):
        self.assertEqual(ratio(3, q=6), (1, 2))
        self.assertEqual(ratio(3, q=-6), (-1, 2))
        self.assertEqual(ratio(5), (5, 1))
        self.assertEqual(ratio(-5), (-5, 1))
        self.assertEqual(ratio(0), (0, 1))

    def test_denominator_zero(self):
        for p in VALUES:
            with self.assertRaises(BadRatio):
                ratio(p, 0)
        with self.assertRaises(BadRatio):
            ratio(1, q=0)

    def test_sums_and_products(self):
        for a in RATIOS:
            for b in RATIOS:
                x, y = Fraction(*a), Fraction(*b)
                self.assertEqual(plus(a, b), pair(x + y))
                self.assertEqual(minus(a, b), pair(x - y))
                self.assertEqual(times(a, b), pair(x * y))
                self.assertEqual(compare(a, b), (x > y) - (x < y))
                if y != 0:
                    self.assertEqual(over(a, b), pair(x / y))
            self.assertEqual(opposite(a), pair(-Fraction(*a)))
            self.assert_lowest(opposite(a))

    def test_over_zero(self):
        for a in RATIOS:
            with self.assertRaises(BadRatio):
                over(a, (0, 1))
        self.assertEqual(over((0, 1), (-3, 7)), (0, 1))
        self.assertEqual(over((1, 2), (-3, 7)), (-7, 6))

    def test_compare_gives_exact_integers(self):
        for a, b, wanted in (((1, 3), (1, 2), -1), ((1, 2), (1, 2), 0), ((1, 2), (1, 3), 1), ((-1, 2), (1, 3), -1)):
            self.assertEqual(compare(a, b), wanted)
            self.assertIs(type(compare(a, b)), int)


class RatioTextTest(unittest.TestCase):
    def test_text(self):
        self.assertEqual(ratio_text((0, 1)), "0/1")
        self.assertEqual(ratio_text((1, 2)), "1/2")
        self.assertEqual(ratio_text((-7, 3)), "-7/3")
        self.assertEqual(ratio_text((5, 1)), "5/1")

    def test_read_back(self):
        for a in RATIOS:
            self.assertEqual(ratio_text(a), f"{a[0]}/{a[1]}")
            self.assertEqual(parse_ratio(ratio_text(a)), a)

    def test_lowest_terms(self):
        self.assertEqual(parse_ratio("2/4"), (1, 2))
        self.assertEqual(parse_ratio("-6/4"), (-3, 2))
        self.assertEqual(parse_ratio("0/5"), (0, 1))
        self.assertEqual(parse_ratio("10/5"), (2, 1))

    def test_example_of_the_document(self):
        self.assertEqual(plus(parse_ratio("2/4"), parse_ratio("-1/3")), (1, 6))

    def test_wrong_words(self):
        for text in ("", "1", "1/0", "1/-2", "-0/1", "01/2", "1/02", "1/2 ", " 1/2", "1/2\n", "1_0/2", "+1/2", "x", "1/2/3"):
            with self.assertRaises(BadText) as caught:
                parse_ratio(text)
            self.assertEqual(caught.exception.place, 0)

    def test_numbers_of_any_length(self):
        for length in (18, 60, 64, 65, 128, 129, 4300, 4301, 9000):
            p = -(10 ** (length - 1) + 7)
            text = "-1" + "0" * (length - 2) + "7/1" + "0" * (length - 2) + "1"
            self.assertEqual(ratio_text((p, 10 ** (length - 1) + 1)), text)
            self.assertEqual(parse_ratio(text), (p, 10 ** (length - 1) + 1))
