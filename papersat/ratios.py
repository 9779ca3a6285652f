"""Ratios: tuples (p, q) of integers in lowest terms, with q at least 1."""

from math import gcd

from papersat.errors import BadRatio, BadText
from papersat.numerals import read_whole, whole_text
from papersat.words import is_ratio_word

ZERO = (0, 1)
ONE = (1, 1)


def ratio(p, q=1):
    """The ratio p / q."""
    if q == 0:
        raise BadRatio()
    if q < 0:
        p, q = -p, -q
    common = gcd(p, q)
    return (p // common, q // common)


def plus(a, b):
    """The sum of two ratios."""
    return ratio(a[0] * b[1] + b[0] * a[1], a[1] * b[1])


def minus(a, b):
    """The difference of two ratios."""
    return ratio(a[0] * b[1] - b[0] * a[1], a[1] * b[1])


def times(a, b):
    """The product of two ratios."""
    return ratio(a[0] * b[0], a[1] * b[1])


def over(a, b):
    """The first ratio divided by the second."""
    return ratio(a[0] * b[1], a[1] * b[0])


def opposite(a):
    """The ratio times -1."""
    return (-a[0], a[1])


def compare(a, b):
    """-1, 0 or 1 if a is below, equal to or above b."""
    left = a[0] * b[1]
    right = b[0] * a[1]
    if left == right:
        return 0
    return -1 if left < right else 1


def ratio_text(a):
    """The ratio word of a ratio."""
    return f"{whole_text(a[0])}/{whole_text(a[1])}"


def parse_ratio(text):
    """The ratio of a ratio word, which need not be in lowest terms."""
    if not is_ratio_word(text):
        raise BadText(0)
    above, _, below = text.partition("/")
    return ratio(read_whole(above), read_whole(below))
