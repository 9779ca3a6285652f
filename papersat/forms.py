"""Linear forms: tuples (constant, rows), with rows as pairs of a node and a coefficient."""

from papersat.errors import BadSort
from papersat.ratios import ONE, ZERO, plus, times

NUMBER_SORTS = ("whole", "ratio")
FORM_OPS = ("shift", "sum", "scale")
MINUS_ONE = (-1, 1)


def constant_form(a):
    """The form of a ratio."""
    return (a, ())


def base_form(node):
    """The form of a node that stands for itself."""
    return (ZERO, ((node, ONE),))


def form_plus(f, g):
    """The sum of two forms."""
    total = dict(f[1])
    for node, coefficient in g[1]:
        total[node] = plus(total.get(node, ZERO), coefficient)
    rows = [(node, total[node]) for node in sorted(total) if total[node] != ZERO]
    return (plus(f[0], g[0]), tuple(rows))


def form_times(a, f):
    """A form times a ratio."""
    if a == ZERO:
        return constant_form(ZERO)
    rows = [(node, times(a, coefficient)) for node, coefficient in f[1]]
    return (times(a, f[0]), tuple(rows))


def form_value(f, values):
    """The value of a form under a dict from nodes to ratios."""
    total = f[0]
    for node, coefficient in f[1]:
        total = plus(total, times(coefficient, values[node]))
    return total


def term_form(bank, node):
    """The form of a term of sort whole or ratio."""
    if bank.sort_of(node) not in NUMBER_SORTS:
        raise BadSort(bank.node(node)[0])
    forms = {}
    # Parts have lesser numbers, so their forms are there before they are needed.
    for number in _formed_nodes(bank, node):
        forms[number] = _node_form(bank, number, forms)
    return forms[node]


def literal_form(bank, literal):
    """The form that a literal over a `most` node keeps at most zero, and whether below zero."""
    op, _, parts = bank.node(abs(literal))
    if op != "most":
        raise BadSort(op)
    difference = form_plus(
        term_form(bank, parts[0]), form_times(MINUS_ONE, term_form(bank, parts[1]))
    )
    if literal > 0:
        return (difference, False)
    contrary = form_times(MINUS_ONE, difference)
    if bank.sort_of(parts[0]) == "ratio":
        return (contrary, True)
    return (form_plus(contrary, constant_form(ONE)), False)


def _formed_nodes(bank, node):
    """The node and the nodes whose forms its form is made of, ascending."""
    found = {node: True}
    waiting = [node]
    while waiting:
        op, _, parts = bank.node(waiting.pop())
        made_of = parts if op in FORM_OPS else ()
        for part in made_of:
            if part not in found:
                found[part] = True
                waiting.append(part)
    return sorted(found)


def _node_form(bank, number, forms):
    op, value, parts = bank.node(number)
    if op == "whole":
        return constant_form((value, 1))
    if op == "ratio":
        return constant_form(value)
    if op == "shift":
        return form_plus(forms[parts[0]], constant_form((value, 1)))
    if op == "scale":
        return form_times(value, forms[parts[0]])
    if op == "sum":
        total = constant_form(ZERO)
        for part in parts:
            total = form_plus(total, forms[part])
        return total
    return base_form(number)
