"""Whether a step is good, by the words of points 32 and 66, and the meaning of forms in clashes."""

from math import gcd

from papersat.clauses import part_clauses
from papersat.forms import constant_form, form_plus, form_times, literal_form


def end_of_strikes(clauses, first, strikes):
    """The set that point 32 ends with, or None if a pair does not fit; clauses by their numbers."""
    held = set(clauses[first])
    for literal, number in strikes:
        if literal not in held or -literal not in clauses[number]:
            return None
        held.remove(literal)
        held.update(each for each in clauses[number] if each != -literal)
    return held


def resolves(steps, number):
    """True if the step is a good resolve step of a list of steps."""
    _, clause, (first, strikes) = steps[number]
    if not all(0 <= each < number for each in [first, *[pair[1] for pair in strikes]]):
        return False
    clauses = [step[1] for step in steps]
    return type(strikes) is tuple and end_of_strikes(clauses, first, strikes) == set(clause)


def is_clause(bank, clause):
    """True if this is a clause over nodes of sort truth of the bank."""
    nodes = [abs(literal) for literal in clause]
    fits = type(clause) is tuple and nodes == sorted(set(nodes))
    return fits and all(is_node(bank, node) and bank.sort_of(node) == "truth" for node in nodes)


def equal_node(bank, x, y):
    return bank.seek("equal", None, (x, y))


def walks(bank, clause, details):
    """True if this is a good chain step."""
    start, equalities = details
    place = start
    for equality in equalities:
        op, _, parts = bank.node(equality)
        if op != "equal" or place not in parts:
            return False
        place = parts[0] if parts[1] == place else parts[1]
    whole = equal_node(bank, start, place)
    return len(equalities) > 0 and whole > 0 and set(clause) == {whole, *[-each for each in equalities]}


def compares(bank, clause, details):
    """True if this is a good like step."""
    u, v = details
    first, second = bank.node(u), bank.node(v)
    if first[0] != "call" or second[0] != "call" or first[1] != second[1]:
        return False
    wanted = [-equal_node(bank, x, y) for x, y in zip(first[2], second[2]) if x != y]
    wanted += [-u, v] if bank.sort_of(u) == "truth" else [equal_node(bank, u, v)]
    return 0 not in wanted and set(clause) == set(wanted)


def clashes(pairs):
    """True if pairs of (form, strict) and weight cannot hold together, as point 56 says."""
    total = constant_form((0, 1))
    for (form, _), weight in pairs:
        if weight[0] <= 0:
            return False
        total = form_plus(total, form_times(weight, form))
    (p, _), rows = total
    return rows == () and (p > 0 or p == 0 and any(strict for (_, strict), _ in pairs))


def adds_up(bank, clause, details):
    """True if this is a good sum step."""
    if type(details) is not tuple or len(details) != len(clause):
        return False
    return clashes([(literal_form(bank, -literal), weight) for literal, weight in zip(clause, details)])


def is_node(bank, value):
    return type(value) is int and 1 <= value <= len(bank)


def is_tuple(value, fits):
    """True if this is a tuple of items that fit."""
    return type(value) is tuple and all(fits(item) for item in value)


def has_shape(bank, kind, details, number):
    """True if the details have the shape that point 66 gives a kind, with known nodes and steps."""
    def node(value):
        return is_node(bank, value)

    def earlier(value):
        return type(value) is int and 0 <= value < number

    def weight(value):
        return is_tuple(value, lambda item: type(item) is int and item > 0) and len(value) == 2 and gcd(*value) == 1

    def strike(value):
        return type(value) is tuple and len(value) == 2 and type(value[0]) is int and earlier(value[1])

    if kind in ("chain", "resolve"):
        one, many = (node, node) if kind == "chain" else (earlier, strike)
        return type(details) is tuple and len(details) == 2 and one(details[0]) and is_tuple(details[1], many)
    if kind == "like":
        return is_tuple(details, node) and len(details) == 2
    return {"part": node, "same": lambda value: value is None, "sum": lambda value: is_tuple(value, weight)}[kind](details)


KINDS = ("part", "same", "chain", "like", "sum", "resolve")


def is_good(bank, steps, number):
    """True if the step is good in the list of steps."""
    kind, clause, details = steps[number]
    if kind not in KINDS or not is_clause(bank, clause) or not has_shape(bank, kind, details, number):
        return False
    if kind == "part":
        return clause in part_clauses(bank, details)
    if kind == "same":
        if len(clause) != 1 or clause[0] < 0:
            return False
        op, _, parts = bank.node(clause[0])
        return op == "equal" and parts[0] == parts[1]
    if kind == "chain":
        return walks(bank, clause, details)
    if kind == "like":
        return compares(bank, clause, details)
    if kind == "sum":
        return all(bank.node(abs(literal))[0] == "most" for literal in clause) and adds_up(bank, clause, details)
    return resolves(steps, number)
