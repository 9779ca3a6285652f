"""papersat/numerals.py: integers of any length as texts."""

import unittest

from papersat.numerals import read_whole, whole_text


class NumeralsTest(unittest.TestCase):
    def test_like_python(self):
        near = [10 ** k + d for k in (0, 1, 2, 18, 63, 64, 65, 127, 128, 129, 192, 900) for d in (-1, 0, 1, 7)]
        for number in [*near, 0, 5, 10, 123456789 * 10 ** 120 + 987, int("1234567890" * 60)]:
            for signed in (number, -number):
                self.assertEqual(whole_text(signed), str(signed))
                self.assertEqual(read_whole(str(signed)), signed)

    def test_longer_than_python_takes_at_once(self):
        for digits in (4300, 4301, 5000, 12345):
            number = 10 ** digits + 60708
            text = "1" + "0" * (digits - 5) + "60708"
            self.assertEqual(whole_text(number), text)
            self.assertEqual(whole_text(-number), "-" + text)
            self.assertEqual(read_whole(text), number)
            self.assertEqual(read_whole("-" + text), -number)
