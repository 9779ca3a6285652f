"""Nudged values: triples `(p, t, q)` for (p + t * s) / q, with integers and q at least 1.

Here s is a positive number that is smaller than all others that matter. One value has many triples.
"""

NOTHING = (0, 0, 1)


def nudged_minus(x, y):
    """The difference of two nudged values."""
    return (x[0] * y[2] - y[0] * x[2], x[1] * y[2] - y[1] * x[2], x[2] * y[2])


def compare_nudged(x, y):
    """-1, 0 or 1 if x is below, equal to or above y."""
    deciding = x[0] * y[2] - y[0] * x[2]
    if deciding == 0:
        deciding = x[1] * y[2] - y[1] * x[2]
    if deciding == 0:
        return 0
    return 1 if deciding > 0 else -1
