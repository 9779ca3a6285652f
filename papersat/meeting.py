"""The question of some sentences: its nodes and its clauses."""

from papersat.clauses import gather, part_clauses
from papersat.forms import literal_form
from papersat.ratios import ONE, ZERO, compare

NUMBER_SORTS = ("whole", "ratio")


def meeting_pairs(bank, nodes):
    """The ascending list of the pairs of numbers that two calls of one function bring together."""
    calls = {}
    for node in sorted(set(nodes)):
        op, name, _ = bank.node(node)
        if op == "call":
            calls.setdefault(name, []).append(node)
    pairs = {}
    for same in calls.values():
        for k, u in enumerate(same):
            for v in same[k + 1:]:
                for pair in _pairs_of_calls(bank, u, v):
                    pairs[pair] = True
    return sorted(pairs)


def question(bank, log, sentences):
    """The nodes of the question, and the numbers of the steps that were added for its clauses."""
    gathered = gather(bank, sentences)
    meeting = [bank.make("equal", None, pair) for pair in meeting_pairs(bank, gathered)]
    nodes = gather(bank, gathered + meeting)
    numbers = []
    for node in nodes:
        for clause in part_clauses(bank, node):
            numbers.append(log.write("part", clause, node))
        if bank.node(node)[0] == "most":
            numbers.extend(_constant_steps(bank, log, node))
    return (nodes, numbers)


def _pairs_of_calls(bank, u, v):
    """The pairs of different numbers among two calls and their parts, the lesser one first."""
    pairs = [(u, v)] + list(zip(bank.node(u)[2], bank.node(v)[2]))
    return [(min(x, y), max(x, y)) for x, y in pairs if x != y and bank.sort_of(x) in NUMBER_SORTS]


def _constant_steps(bank, log, node):
    """The list of the number of the step for a `most` node that is true or false by itself."""
    (constant, rows), _ = literal_form(bank, node)
    if rows:
        return []
    literal = node if compare(constant, ZERO) <= 0 else -node
    return [log.write("sum", (literal,), (ONE,))]
