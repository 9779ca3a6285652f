"""Trimming: leaving out the steps that the last step does not need."""


def trim(steps):
    """The last step and the steps that it needs, numbered anew."""
    needed = {len(steps) - 1: True} if steps else {}
    for number in reversed(range(len(steps))):
        if number in needed:
            needed.update({used: True for used in _used_numbers(steps[number])})
    numbers = sorted(needed)
    places = {number: place for place, number in enumerate(numbers)}
    return [_renumbered(steps[number], places) for number in numbers]


def _used_numbers(step):
    """The list of the numbers in the details of a `resolve` step."""
    kind, _, details = step
    if kind != "resolve":
        return []
    first, strikes = details
    return [first] + [number for _, number in strikes]


def _renumbered(step, places):
    kind, clause, details = step
    if kind != "resolve":
        return step
    first, strikes = details
    moved = [(literal, places[number]) for literal, number in strikes]
    return (kind, clause, (places[first], tuple(moved)))
