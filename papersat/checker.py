"""The checker: whether a list of steps is a paper."""

from papersat.rules import is_good_step


def first_bad(bank, steps):
    """The number of the first step that is not good, or None."""
    for number in range(len(steps)):
        if not is_good_step(bank, steps, number):
            return number
    return None


def check(bank, sentences, steps):
    """True if the list of steps is a paper against the sentences."""
    if not steps or first_bad(bank, steps) is not None:
        return False
    negations = {-sentence: True for sentence in sentences}
    return all(literal in negations for literal in steps[-1][1])
