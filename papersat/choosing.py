"""Choosing: which open literal a search tries next."""

GREATEST_BUMP = 2 ** 60


class Chooser:
    """Prefers the nodes that recent clashes were about, with the sign that they had last."""

    def __init__(self, nodes, clauses):
        self._scores = {node: 0 for node in nodes}
        self._bump = 1
        signs = {node: 0 for node in nodes}
        for clause in clauses:
            for literal in clause:
                signs[abs(literal)] += 1 if literal > 0 else -1
        # At first each node has the sign that occurs more often in the clauses.
        self._sides = {node: 1 if signs[node] >= 0 else -1 for node in nodes}

    def credit(self, literals):
        """Raises the scores of the nodes of these literals, later ones by more."""
        for literal in literals:
            self._scores[abs(literal)] += self._bump
        self._bump += self._bump // 16 + 1
        if self._bump > GREATEST_BUMP:
            self._bump //= 2 ** 50
            self._scores = {node: score // 2 ** 50 for node, score in self._scores.items()}

    def remember(self, literals):
        """Keeps the signs of literals that are about to be taken off the trail."""
        for literal in literals:
            self._sides[abs(literal)] = 1 if literal > 0 else -1

    def pick(self, trail):
        """The open literal to choose, or None."""
        best = None
        for node in self._scores:
            if node not in trail and -node not in trail:
                if best is None or self._scores[node] > self._scores[best]:
                    best = node
        return None if best is None else best * self._sides[best]
