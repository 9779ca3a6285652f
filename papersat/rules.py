"""The rules: whether a step is good. Nothing is searched for here, and no node is made.

The details of a step may have any shape that is built from None, integers and tuples.
"""

from math import gcd

from papersat.clauses import part_clauses
from papersat.forms import constant_form, form_plus, form_times, literal_form
from papersat.ratios import ZERO


def is_good_step(bank, steps, number):
    """True if the step of this number is good in the list of steps."""
    kind, clause, details = steps[number]
    if not _is_clause(bank, clause):
        return False
    if kind == "resolve":
        return _fits_resolve(steps, number)
    if kind not in RULES:
        return False
    rule = RULES[kind]
    return rule(bank, clause, details)


def _is_clause(bank, clause):
    """True for literals over nodes of sort truth, in ascending order of these, each node once."""
    nodes = [abs(literal) for literal in clause]
    if nodes != sorted(set(nodes)):
        return False
    return all(bank.has(node) and bank.sort_of(node) == "truth" for node in nodes)


def _fits_part(bank, clause, details):
    return _is_node(bank, details) and clause in part_clauses(bank, details)


def _fits_same(bank, clause, details):
    if details is not None or len(clause) != 1:
        return False
    literal = clause[0]
    op, _, parts = bank.node(abs(literal))
    return literal > 0 and op == "equal" and parts[0] == parts[1]


def _fits_chain(bank, clause, details):
    if not _is_pair(details):
        return False
    start, equalities = details
    end = _end_of_walk(bank, start, equalities)
    if end is None:
        return False
    literals = [bank.seek("equal", None, (start, end))] + [-equality for equality in equalities]
    # A node that is not in the bank was found as 0, which is in no clause.
    return set(clause) == set(literals)


def _fits_like(bank, clause, details):
    if not _is_pair(details) or not _is_node(bank, details[0]) or not _is_node(bank, details[1]):
        return False
    u, v = details
    op, name, parts = bank.node(u)
    other_op, other_name, other_parts = bank.node(v)
    if op != "call" or other_op != "call" or name != other_name:
        return False
    literals = [-bank.seek("equal", None, (x, y)) for x, y in zip(parts, other_parts) if x != y]
    if bank.sort_of(u) == "truth":
        literals.extend([-u, v])
    else:
        literals.append(bank.seek("equal", None, (u, v)))
    return set(clause) == set(literals)


def _fits_sum(bank, clause, details):
    if not isinstance(details, tuple) or len(details) != len(clause):
        return False
    total = constant_form(ZERO)
    has_strict = False
    for literal, weight in zip(clause, details):
        if bank.node(abs(literal))[0] != "most" or not _is_positive_ratio(weight):
            return False
        form, strict = literal_form(bank, -literal)
        total = form_plus(total, form_times(weight, form))
        has_strict = has_strict or strict
    (constant, _), rows = total
    return not rows and (constant > 0 or constant == 0 and has_strict)


def _fits_resolve(steps, number):
    _, clause, details = steps[number]
    if not _is_pair(details) or not isinstance(details[1], tuple):
        return False
    first, strikes = details
    if not _is_earlier(first, number):
        return False
    held = {literal: True for literal in steps[first][1]}
    for strike in strikes:
        if not _is_pair(strike) or not _is_integer(strike[0]) or not _is_earlier(strike[1], number):
            return False
        literal, other = strike
        if literal not in held or -literal not in steps[other][1]:
            return False
        del held[literal]
        held.update({each: True for each in steps[other][1] if each != -literal})
    return set(clause) == set(held)


RULES = {
    "part": _fits_part,
    "same": _fits_same,
    "chain": _fits_chain,
    "like": _fits_like,
    "sum": _fits_sum,
}


def _end_of_walk(bank, start, equalities):
    """The node that a walk along equalities ends at, or None if there is no such walk."""
    if not _is_node(bank, start) or not isinstance(equalities, tuple) or not equalities:
        return None
    place = start
    for equality in equalities:
        if not _is_node(bank, equality):
            return None
        op, _, parts = bank.node(equality)
        if op != "equal" or place not in parts:
            return None
        place = parts[1] if parts[0] == place else parts[0]
    return place


def _is_integer(value):
    return isinstance(value, int)


def _is_pair(value):
    return isinstance(value, tuple) and len(value) == 2


def _is_node(bank, value):
    return isinstance(value, int) and bank.has(value)


def _is_earlier(value, number):
    return isinstance(value, int) and 0 <= value < number


def _is_positive_ratio(value):
    if not _is_pair(value) or not _is_integer(value[0]) or not _is_integer(value[1]):
        return False
    return value[0] >= 1 and value[1] >= 1 and gcd(value[0], value[1]) == 1
