"""Trails: literals that are taken to be true, in the order in which they were put on."""

from papersat.errors import BadLiteral


class Trail:
    """Chosen and forced literals over some nodes; each chosen one begins a level."""

    def __init__(self, nodes):
        self._nodes = {node: True for node in nodes}
        self._literals = []
        self._levels = []
        self._reasons = []
        self._places = {}
        # Where the levels from 1 on begin.
        self._starts = []
        # A literal that is put on gets a ticket: how many were put on before it, ever.
        self._tickets = []
        self._next_ticket = 0

    def choose(self, literal):
        """Puts on a literal that begins a new level."""
        self._refuse_unless_open(literal)
        self._starts.append(len(self._literals))
        self._put(literal, None)

    def force(self, literal, reason):
        """Puts on a literal that has a reason."""
        self._refuse_unless_open(literal)
        self._put(literal, reason)

    def back(self, level):
        """Removes the literals of all levels above this one."""
        if level >= len(self._starts):
            return
        start = self._starts[level]
        for literal in self._literals[start:]:
            del self._places[literal]
        del self._literals[start:], self._levels[start:], self._reasons[start:], self._tickets[start:]
        del self._starts[level:]

    def value(self, literal):
        """True, False, or None if the literal is open."""
        self._refuse_unknown(literal)
        if literal in self._places:
            return True
        return False if -literal in self._places else None

    def level_of(self, literal):
        """The level of the literal or of its negation, or None."""
        place = self.place_of(literal)
        return None if place is None else self._levels[place]

    def reason_of(self, literal):
        """The reason of the literal or of its negation, or None."""
        place = self.place_of(literal)
        return None if place is None else self._reasons[place]

    def place_of(self, literal):
        """The place on the trail of the literal or of its negation, or None."""
        self._refuse_unknown(literal)
        if literal in self._places:
            return self._places[literal]
        return self._places.get(-literal)

    def literals(self):
        """The list of the literals on the trail in order."""
        return list(self._literals)

    def sizes(self):
        """The list of the numbers of literals of the levels."""
        edges = [0, *self._starts, len(self._literals)]
        return [edges[k + 1] - edges[k] for k in range(len(edges) - 1)]

    def depth(self):
        """The number of chosen literals."""
        return len(self._starts)

    def put_since(self, ticket):
        """The pairs of ticket and literal of the trail, in order, from this ticket on."""
        start = len(self._tickets)
        while start > 0 and self._tickets[start - 1] >= ticket:
            start -= 1
        return list(zip(self._tickets[start:], self._literals[start:]))

    def __contains__(self, x):
        """True if the literal x is true, for any integer."""
        return x in self._places

    def _put(self, literal, reason):
        self._places[literal] = len(self._literals)
        self._literals.append(literal)
        self._levels.append(len(self._starts))
        self._reasons.append(reason)
        self._tickets.append(self._next_ticket)
        self._next_ticket += 1

    def _refuse_unknown(self, literal):
        if abs(literal) not in self._nodes:
            raise BadLiteral(literal)

    def _refuse_unless_open(self, literal):
        if self.value(literal) is not None:
            raise BadLiteral(literal)
