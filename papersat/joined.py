"""The joined listener: equality, order of fractions and differences of whole numbers together."""

from papersat.classes import Classes
from papersat.clauses import clause_of
from papersat.forms import literal_form
from papersat.listener import Listener
from papersat.ratios import ONE
from papersat.reasons import clash_step, reason_step
from papersat.rows import Rows
from papersat.ways import Ways

NOTHING = ("nothing", ())


class Joined(Listener):
    """Hears the literals of a question; its faults are clauses that are valid by good steps."""

    def __init__(self, bank, log, nodes):
        super().__init__()
        self._bank = bank
        self._log = log
        self.classes = Classes(bank, _points(bank, nodes))
        self.rows = Rows()
        self.ways = Ways()
        # The denied pairs with their `equal` nodes.
        self._denied = []
        # For each literal that was told the counts of what stood before it.
        self._marks = []
        self._deeds = {}

    def told(self, literal):
        """Hears one more literal."""
        mark = (self.classes.joins(), self.rows.bounds(), self.ways.limits(), len(self._denied))
        if literal not in self._deeds:
            self._deeds[literal] = _deed(self._bank, literal)
        kind, passed = self._deeds[literal]
        if kind == "join":
            self.classes.unite(*passed)
        elif kind == "deny":
            self._denied.append(passed)
        elif kind == "bound":
            self.rows.bound(*passed)
        elif kind == "limit":
            self.ways.limit(*passed)
        self._marks.append(mark)
        super().told(literal)

    def fault(self):
        """The number of a step of which all literals are false, or None."""
        number = self._fault_of_classes()
        if number is None:
            number = self._fault_of_ways()
        return self._fault_of_rows() if number is None else number

    def back(self, count):
        """Takes the listener back to the first `count` literals that it was told."""
        if count < len(self._marks):
            joins, bounds, limits, denied = self._marks[count]
            self.classes.back(joins)
            self.rows.back(bounds)
            self.ways.back(limits)
            del self._denied[denied:]
            del self._marks[count:]
        super().back(count)

    def told_count(self):
        """How many literals it was told that were not taken back."""
        return super().told_count()

    def _fault_of_classes(self):
        if self.classes.same(1, 2):
            return clash_step(self._bank, self.classes, self._log)
        for a, b, node in self._denied:
            if a == b:
                return self._log.write("same", (node,), None)
            if self.classes.same(a, b):
                return reason_step(self._bank, self.classes, self._log, a, b)
        return None

    def _fault_of_ways(self):
        ring = self.ways.settle()
        if ring is None:
            return None
        return self._sum_step([(label, ONE) for label in ring])

    def _fault_of_rows(self):
        clash = self.rows.settle()
        return None if clash is None else self._sum_step(clash)

    def _sum_step(self, pairs):
        """Adds the step that says that the literals with these weights are not all true."""
        weights = {-label: weight for label, weight in pairs}
        clause = clause_of(list(weights))
        return self._log.write("sum", clause, tuple([weights[literal] for literal in clause]))


def _points(bank, nodes):
    """The nodes 1 and 2, the nodes of other sorts than truth, and the calls of sort truth with parts."""
    points = [1, 2]
    for node in nodes:
        op, _, parts = bank.node(node)
        if bank.sort_of(node) != "truth" or op == "call" and parts:
            points.append(node)
    return points


def _deed(bank, literal):
    """What a literal means for the layers: a kind, and what is passed on."""
    node = abs(literal)
    op, _, parts = bank.node(node)
    if op == "equal" and bank.sort_of(parts[0]) != "truth":
        return ("join" if literal > 0 else "deny", (parts[0], parts[1], node))
    if op == "call" and parts and bank.sort_of(node) == "truth":
        return ("join", (node, 1 if literal > 0 else 2, literal))
    if op != "most":
        return NOTHING
    form, strict = literal_form(bank, literal)
    if not form[1]:
        return NOTHING
    if bank.sort_of(parts[0]) == "ratio":
        return ("bound", (form, strict, literal))
    return ("limit", _limit(form, literal))


def _limit(form, literal):
    """The limit of a form whose rows are one or two nodes with the coefficients 1 and -1."""
    (constant, _), rows = form
    places = {coefficient: node for node, coefficient in rows}
    return (places.get((1, 1), 0), places.get((-1, 1), 0), -constant, literal)
