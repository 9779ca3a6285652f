"""Plain versions of what the layers do, for the tests."""

from itertools import combinations

from papersat.forms import form_value, literal_form, term_form
from papersat.models import Model


def least_groups(bank, points, joins):
    """The classes of the least equivalence relation of point 49; joins begin with two points."""
    marks = {point: point for point in points}

    def merge(x, y):
        old, new = marks[x], marks[y]
        for point in marks:
            if marks[point] == old:
                marks[point] = new

    calls = [point for point in marks if bank.node(point)[0] == "call"]
    for join in joins:
        merge(join[0], join[1])
    grown = True
    while grown:
        grown = False
        for u, v in combinations(calls, 2):
            if marks[u] != marks[v] and bank.node(u)[1] == bank.node(v)[1]:
                if all(marks[x] == marks[y] for x, y in zip(bank.node(u)[2], bank.node(v)[2])):
                    merge(u, v)
                    grown = True
    groups = {}
    for point in sorted(marks):
        groups.setdefault(marks[point], []).append(point)
    return sorted(groups.values())


def holds(form, strict, values):
    """True if a bound holds under a dict from nodes to ratios."""
    p, _ = form_value(form, values)
    return p < 0 or p == 0 and not strict


def heights_exist(limits):
    """True if integers fit all limits (x, y, k, ..), each saying that x minus y is at most k."""
    heights = {place: 0 for limit in limits for place in limit[:2]}
    for _ in range(len(heights) + 1):
        falls = False
        for x, y, k, *_ in limits:
            if heights[x] > heights[y] + k:
                heights[x] = heights[y] + k
                falls = True
        if not falls:
            return True
    return False


def numbers_of(bank, nodes, joined):
    """The values of the nodes of sort whole and ratio by point 65."""
    heights, point = joined.ways.heights(), joined.rows.point()
    values = {}
    for node in nodes:
        sort = bank.sort_of(node)
        if sort in ("whole", "ratio"):
            form = term_form(bank, node)
            known = {n: (heights.get(n, 0), 1) if sort == "whole" else point.get(n, (0, 1)) for n, _ in form[1]}
            value = form_value(form, known)
            values[node] = value[0] if sort == "whole" else value
    return values


def model_of(bank, nodes, row, joined):
    """The model of a row by point 65."""
    values = numbers_of(bank, nodes, joined)
    for sort in bank.signature.sorts():
        groups = [group for group in joined.classes.groups() if bank.sort_of(group[0]) == sort]
        for number, group in enumerate(groups):
            values.update({point: number for point in group})
    true = set(row)
    model = Model(bank.signature)
    for node in nodes:
        op, name, parts = bank.node(node)
        if op == "call":
            value = node in true if bank.sort_of(node) == "truth" else values[node]
            model.give(name, [values[part] for part in parts], value)
    return model


def numbers_can_hold(bank, literals, joined):
    """True if the literals over `most` nodes hold under the heights and the point."""
    over_most = [literal for literal in literals if bank.node(abs(literal))[0] == "most"]
    parts = [part for literal in over_most for part in bank.node(abs(literal))[2]]
    nodes = sorted({n for part in parts for n, _ in term_form(bank, part)[1]})
    values = {}
    for node, value in numbers_of(bank, nodes, joined).items():
        values[node] = (value, 1) if bank.sort_of(node) == "whole" else value
    forms = [literal_form(bank, literal) for literal in over_most]
    return all(holds(form, strict, values) for form, strict in forms if form[1])
