"""Building: the model of a row that agrees with the clauses and the listener of a question."""

from papersat.forms import form_value, term_form
from papersat.models import Model
from papersat.ratios import ZERO


def build_model(bank, nodes, row, joined):
    """The model of a row, under which every literal of the row holds."""
    heights = {node: (height, 1) for node, height in joined.ways.heights().items()}
    wholes = _values_of_forms(bank, nodes, "whole", heights)
    values = _class_numbers(bank, joined.classes.groups())
    values.update({node: value[0] for node, value in wholes.items()})
    values.update(_values_of_forms(bank, nodes, "ratio", joined.rows.point()))
    values.update({abs(literal): literal > 0 for literal in row})
    model = Model(bank.signature)
    for node in nodes:
        op, name, parts = bank.node(node)
        if op == "call":
            model.give(name, [values[part] for part in parts], values[node])
    return model


def _class_numbers(bank, groups):
    """From each point of a declared sort to the number of its class among those of its sort."""
    counts = {sort: 0 for sort in bank.signature.sorts()}
    numbers = {}
    # The classes come in ascending order of their least points.
    for group in groups:
        sort = bank.sort_of(group[0])
        if sort in counts:
            numbers.update({point: counts[sort] for point in group})
            counts[sort] += 1
    return numbers


def _values_of_forms(bank, nodes, sort, known):
    """From each node of a sort to the ratio that its form has, with zero for nodes that are not known."""
    values = {}
    for node in nodes:
        if bank.sort_of(node) == sort:
            form = term_form(bank, node)
            values[node] = form_value(form, {each: known.get(each, ZERO) for each, _ in form[1]})
    return values
