"""Kept clauses: valid clauses with the steps that they follow by, for later questions."""

from papersat.trimming import trim

MOST_STEPS = 200
MOST_LITERALS = 8


class Kept:
    """Trimmed lists of steps; the oldest one goes when there are too many."""

    def __init__(self, *, limit=40):
        self._limit = limit
        self._lists = []

    def offer(self, steps):
        """Adds the trimmed list if it is short enough and its last clause is new; True if it was added."""
        # Trimming changes no last clause, so lists are refused by theirs before they are trimmed.
        if not steps or not self._wants(steps[-1][1]):
            return False
        trimmed = trim(steps)
        if len(trimmed) > MOST_STEPS:
            return False
        self._lists.append(trimmed)
        if len(self._lists) > self._limit:
            del self._lists[0]
        return True

    def lists(self):
        """The list of the kept lists, the oldest first."""
        return [list(steps) for steps in self._lists]

    def usable(self, nodes):
        """The kept lists whose last clause has no other nodes than these."""
        known = {node: True for node in nodes}
        return [list(steps) for steps in self._lists if _has_all(known, steps[-1][1])]

    def _wants(self, clause):
        """True if a list with this last clause may be added."""
        if not 1 <= len(clause) <= MOST_LITERALS:
            return False
        return all(steps[-1][1] != clause for steps in self._lists)


def _has_all(known, clause):
    """True if all nodes of the clause are among the known ones."""
    return all(abs(literal) in known for literal in clause)
