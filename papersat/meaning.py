"""The meanings of terms, literals and clauses under a model."""

from papersat.bank import subterms
from papersat.ratios import ZERO, compare, plus, times

NUMBER_OPS = ("whole", "shift", "ratio", "sum", "scale")


def meanings(bank, model, nodes):
    """A dict from each subterm of the nodes, ascending, to its meaning."""
    found = {}
    # Parts have lesser numbers, so their meanings are there before they are needed.
    for number in subterms(bank, nodes):
        values = [found[part] for part in bank.node(number)[2]]
        found[number] = _meaning_from_parts(bank, model, number, values)
    return found


def meaning(bank, model, node):
    """The meaning of a node."""
    return meanings(bank, model, [node])[node]


def literal_holds(bank, model, literal):
    """True if the literal holds under the model."""
    return clause_holds(bank, model, (literal,))


def clause_holds(bank, model, clause):
    """True if at least one literal of the clause holds under the model."""
    found = meanings(bank, model, [abs(literal) for literal in clause])
    return any(found[abs(literal)] == (literal > 0) for literal in clause)


def _meaning_from_parts(bank, model, number, values):
    op, value, parts = bank.node(number)
    if op == "call":
        return model.look(value, values)
    if op == "if":
        return values[1] if values[0] else values[2]
    if op in NUMBER_OPS:
        return _number_meaning(op, value, values)
    if op in ("most", "less"):
        return _order_meaning(op, bank.sort_of(parts[0]), values)
    return _truth_meaning(op, values)


def _number_meaning(op, value, values):
    if op == "shift":
        return values[0] + value
    if op == "scale":
        return times(value, values[0])
    if op == "sum":
        total = ZERO
        for part in values:
            total = plus(total, part)
        return total
    return value


def _order_meaning(op, sort, values):
    first, second = values
    difference = compare(first, second) if sort == "ratio" else first - second
    return difference <= 0 if op == "most" else difference < 0


def _truth_meaning(op, values):
    if op == "not":
        return not values[0]
    if op == "and":
        return all(values)
    if op == "or":
        return any(values)
    if op == "imply":
        return not values[0] or values[1]
    if op == "equal":
        return values[0] == values[1]
    if op == "distinct":
        return len(set(values)) == len(values)
    return op == "true"
