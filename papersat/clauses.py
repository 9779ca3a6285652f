"""Clauses, the part clauses of nodes, and gathering."""

from heapq import heappop, heappush

from papersat.bank import subterms


def clause_of(literals):
    """The clause with these literals, or None if a literal and its negation are among them."""
    kept = {}
    for literal in literals:
        if -literal in kept:
            return None
        kept[literal] = True
    return tuple(sorted(kept, key=abs))


def resolve(clause, literal, other):
    """The two clauses put together without the literal and its negation, or None."""
    if literal not in clause or -literal not in other:
        return None
    left = [each for each in clause if each != literal]
    right = [each for each in other if each != -literal]
    return clause_of(left + right)


def extra_nodes(bank, node):
    """Makes the extra nodes of a node and returns them ascending, each once."""
    made = [bank.make(op, None, parts) for op, parts in _extras(bank, node)]
    return sorted(set(made))


def part_clauses(bank, node):
    """The part clauses of a node, as far as their nodes are in the bank."""
    kind = _kind(bank, node)
    if kind not in LINES:
        return []
    action = LINES[kind]
    extras = [bank.seek(op, None, parts) for op, parts in _extras(bank, node)]
    clauses = {}
    for line in action(node, bank.node(node)[2], extras):
        # An extra node that is not in the bank was found as 0.
        clause = None if 0 in line else clause_of(line)
        if clause is not None:
            clauses[clause] = True
    return list(clauses)


def gather(bank, nodes):
    """The least list with the nodes and, with each node, its parts and its extra nodes."""
    queue = subterms(bank, nodes)
    found = {node: True for node in queue}
    while queue:
        least = heappop(queue)
        for extra in extra_nodes(bank, least):
            # The parts of an extra node are there already.
            if extra not in found:
                found[extra] = True
                heappush(queue, extra)
    return sorted(found)


def _kind(bank, node):
    """The row of the table of lines that a node belongs to."""
    op, _, parts = bank.node(node)
    if op not in ("if", "equal"):
        return op
    sort = bank.sort_of(parts[1])
    if sort == "truth":
        return f"{op} of truth"
    return f"{op} of numbers" if sort in ("whole", "ratio") else f"{op} of others"


def _extras(bank, node):
    """The op and the parts of each extra node, in the order in which the lines name them."""
    kind = _kind(bank, node)
    parts = bank.node(node)[2]
    if kind in ("if of numbers", "if of others"):
        return [("equal", (node, parts[1])), ("equal", (node, parts[2]))]
    if kind == "equal of numbers":
        return [("most", parts), ("most", (parts[1], parts[0]))]
    if kind == "less":
        return [("most", (parts[1], parts[0]))]
    if kind == "distinct":
        return [("equal", (one, other)) for k, one in enumerate(parts) for other in parts[k + 1:]]
    return []


def _lines_of_true(n, parts, extras):
    return [(n,)]


def _lines_of_false(n, parts, extras):
    return [(-n,)]


def _lines_of_not(n, parts, extras):
    a = parts[0]
    return [(-n, -a), (n, a)]


def _lines_of_and(n, parts, extras):
    return [(-n, part) for part in parts] + [(n, *[-part for part in parts])]


def _lines_of_or(n, parts, extras):
    return [(n, -part) for part in parts] + [(-n, *parts)]


def _lines_of_imply(n, parts, extras):
    a, b = parts
    return [(n, a), (n, -b), (-n, -a, b)]


def _lines_of_truth_if(n, parts, extras):
    a, b, c = parts
    return [(-n, -a, b), (n, -a, -b), (-n, a, c), (n, a, -c)]


def _lines_of_other_if(n, parts, extras):
    a = parts[0]
    first, second = extras
    return [(-a, first), (a, second)]


def _lines_of_truth_equal(n, parts, extras):
    a, b = parts
    return [(-n, -a, b), (-n, a, -b), (n, a, b), (n, -a, -b)]


def _lines_of_number_equal(n, parts, extras):
    upward, downward = extras
    return [(-n, upward), (-n, downward), (n, -upward, -downward)]


def _lines_of_distinct(n, parts, extras):
    return [(-n, -extra) for extra in extras] + [(n, *extras)]


def _lines_of_less(n, parts, extras):
    backward = extras[0]
    return [(-n, -backward), (n, backward)]


LINES = {
    "true": _lines_of_true,
    "false": _lines_of_false,
    "not": _lines_of_not,
    "and": _lines_of_and,
    "or": _lines_of_or,
    "imply": _lines_of_imply,
    "if of truth": _lines_of_truth_if,
    "if of numbers": _lines_of_other_if,
    "if of others": _lines_of_other_if,
    "equal of truth": _lines_of_truth_equal,
    "equal of numbers": _lines_of_number_equal,
    "distinct": _lines_of_distinct,
    "less": _lines_of_less,
}
