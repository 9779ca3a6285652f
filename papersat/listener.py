"""Listeners: they follow a trail from outside and may find a fault in it."""


class Listener:
    """Is told literals, and never has a fault."""

    def __init__(self):
        self._heard = []

    def told(self, literal):
        """Hears one more literal."""
        self._heard.append(literal)

    def fault(self):
        """The number of a step of which all literals are false, or None."""
        return None

    def back(self, count):
        """Takes the listener back to the first `count` literals that it was told."""
        del self._heard[count:]

    def told_count(self):
        """How many literals it was told that were not taken back."""
        return len(self._heard)


class Forbidding(Listener):
    """Has the first of some steps of a log as its fault that has a false clause."""

    def __init__(self, log, numbers):
        super().__init__()
        self._log = log
        self._numbers = list(numbers)

    def told(self, literal):
        """Hears one more literal."""
        super().told(literal)

    def fault(self):
        """The first number of the list whose clause is false, or None."""
        heard = {literal: True for literal in self._heard}
        for number in self._numbers:
            if all(-literal in heard for literal in self._log.clause_at(number)):
                return number
        return None

    def back(self, count):
        """Takes the listener back to the first `count` literals that it was told."""
        super().back(count)

    def told_count(self):
        """How many literals it was told that were not taken back."""
        return super().told_count()
