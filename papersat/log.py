"""Logs: lists of steps that only grow."""


class Log:
    """Steps `(kind, clause, details)`, numbered from 0."""

    def __init__(self):
        self._steps = []

    def write(self, kind, clause, details):
        """Adds a step and returns its number."""
        self._steps.append((kind, clause, details))
        return len(self._steps) - 1

    def take(self, steps):
        """Takes over a list of steps and returns the number of the last one, or None."""
        before = len(self._steps)
        moved = [_moved(step, before) for step in steps]
        self._steps.extend(moved)
        return len(self._steps) - 1 if moved else None

    def step(self, number):
        """The step of a number."""
        return self._steps[number]

    def clause_at(self, number):
        """The clause of a step."""
        return self._steps[number][1]

    def all_steps(self):
        """A new list of all steps."""
        return list(self._steps)

    def __len__(self):
        return len(self._steps)

    def __iter__(self):
        return iter(self._steps)


def _moved(step, distance):
    """The step as it reads when the steps that it names have numbers that are greater by this."""
    kind, clause, details = step
    if kind != "resolve":
        return step
    first, strikes = details
    moved = [(literal, number + distance) for literal, number in strikes]
    return (kind, clause, (first + distance, tuple(moved)))
