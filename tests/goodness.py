"""Whether a step is good, by the words of points 32 and 66, and the meaning of forms in clashes."""

from papersat.clauses import part_clauses
from papersat.forms import constant_form, form_plus, form_times, literal_form


def end_of_strikes(clauses, first, strikes):
    """The set that point 32 ends with, or None if a pair does not fit; clauses by their numbers."""
    held = set(clauses[first])
    for literal, number in strikes:
        if literal not in held or -literal not in clauses[number]:
            return None
        held.remove(literal)
        held.update(each for each in clauses[number] if each != -literal)
    return held


def resolves(steps, number):
    """True if the step is a good resolve step of a list of steps."""
    _, clause, (first, strikes) = steps[number]
    if not all(0 <= each < number for each in [first, *[pair[1] for pair in strikes]]):
        return False
    clauses = [step[1] for step in steps]
    return type(strikes) is tuple and end_of_strikes(clauses, first, strikes) == set(clause)


def is_clause(bank, clause):
    """True if this is a clause over nodes of sort truth of the bank."""
    nodes = [abs(literal) for literal in clause]
    fits = type(clause) is tuple and nodes == sorted(set(nodes))
    return fits and all(bank.has(node) and bank.sort_of(node) == "truth" for node in nodes)


def equal_node(bank, x, y):
    return bank.seek("equal", None, (x, y))


def walks(bank, clause, details):
    """True if this is a good chain step."""
    start, equalities = details
    place = start
    for equality in equalities:
        op, _, parts = bank.node(equality)
        if op != "equal" or place not in parts:
            return False
        place = parts[0] if parts[1] == place else parts[1]
    whole = equal_node(bank, start, place)
    return len(equalities) > 0 and whole > 0 and set(clause) == {whole, *[-each for each in equalities]}


def compares(bank, clause, details):
    """True if this is a good like step."""
    u, v = details
    first, second = bank.node(u), bank.node(v)
    if first[0] != "call" or second[0] != "call" or first[1] != second[1]:
        return False
    wanted = [-equal_node(bank, x, y) for x, y in zip(first[2], second[2]) if x != y]
    wanted += [-u, v] if bank.sort_of(u) == "truth" else [equal_node(bank, u, v)]
    return 0 not in wanted and set(clause) == set(wanted)


def clashes(pairs):
    """True if pairs of (form, strict) and weight cannot hold together, as point 56 says."""
    total = constant_form((0, 1))
    for (form, _), weight in pairs:
        if weight[0] <= 0:
            return False
        total = form_plus(total, form_times(weight, form))
    (p, _), rows = total
    return rows == () and (p > 0 or p == 0 and any(strict for (_, strict), _ in pairs))


def adds_up(bank, clause, details):
    """True if this is a good sum step."""
    if type(details) is not tuple or len(details) != len(clause):
        return False
    return clashes([(literal_form(bank, -literal), weight) for literal, weight in zip(clause, details)])


def is_good(bank, steps, number):
    """True if the step is good in the list of steps."""
    kind, clause, details = steps[number]
    if not is_clause(bank, clause):
        return False
    if kind == "part":
        return clause in part_clauses(bank, details)
    if kind == "same":
        (op, _, parts), _ = bank.node(abs(clause[0])), bank.node(clause[0])
        return details is None and len(clause) == 1 and op == "equal" and parts[0] == parts[1]
    if kind == "chain":
        return walks(bank, clause, details)
    if kind == "like":
        return compares(bank, clause, details)
    if kind == "sum":
        return adds_up(bank, clause, details)
    return kind == "resolve" and resolves(steps, number)
