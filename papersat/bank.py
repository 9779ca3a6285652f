"""Banks: terms as numbered nodes, each different one once."""

from papersat.errors import BadNode, BadSort, UnknownName

LEAF_SORTS = {"true": "truth", "false": "truth", "whole": "whole", "ratio": "ratio"}
CONNECTIVES = ("not", "and", "or", "imply")
SUMS = {"shift": "whole", "scale": "ratio", "sum": "ratio"}
OPS = (
    "true", "false", "not", "and", "or", "imply", "if", "equal", "distinct", "most", "less",
    "whole", "shift", "ratio", "sum", "scale", "call",
)


class Bank:
    """Nodes `(op, value, parts)`, numbered from 1 in the order in which they were made."""

    def __init__(self, signature):
        self.signature = signature
        self._nodes = []
        self._sorts = []
        self._numbers = {}
        self.make("true", None, ())
        self.make("false", None, ())

    def make(self, op, value, parts):
        """The number of the node, which is added if it is not there."""
        if op not in OPS:
            raise BadSort(op)
        if op == "call" and not self.signature.knows_function(value):
            raise UnknownName(value)
        # A part that is no node is refused here, before the sorts are looked at.
        sorts = [self.sort_of(part) for part in parts]
        sort = _sort_made(self.signature, op, value, sorts)
        if sort is None:
            raise BadSort(op)
        node = (op, value, _parts_kept(op, parts))
        if node not in self._numbers:
            self._nodes.append(node)
            self._sorts.append(sort)
            self._numbers[node] = len(self._nodes)
        return self._numbers[node]

    def seek(self, op, value, parts):
        """The number of the node, or 0 if it is not there."""
        return self._numbers.get((op, value, _parts_kept(op, parts)), 0)

    def node(self, number):
        """The tuple `(op, value, parts)`."""
        if not self.has(number):
            raise BadNode(number)
        return self._nodes[number - 1]

    def sort_of(self, number):
        """The sort of a node."""
        if not self.has(number):
            raise BadNode(number)
        return self._sorts[number - 1]

    def has(self, number):
        """True if there is a node of this number."""
        return 1 <= number <= len(self._nodes)

    def __len__(self):
        return len(self._nodes)

    def __iter__(self):
        return iter(self._nodes)


def subterms(bank, nodes):
    """The ascending list of the nodes, their parts, the parts of these, and so on."""
    found = {node: True for node in nodes}
    waiting = list(found)
    while waiting:
        parts = bank.node(waiting.pop())[2]
        for part in parts:
            if part not in found:
                found[part] = True
                waiting.append(part)
    return sorted(found)


def copy_term(bank, node, other):
    """Makes the term in the other bank and returns its number there."""
    copies = {}
    for number in subterms(bank, [node]):
        op, value, parts = bank.node(number)
        copies[number] = other.make(op, value, [copies[part] for part in parts])
    return copies[node]


def _parts_kept(op, parts):
    """The parts as a node keeps them: those of `equal` are in ascending order."""
    return tuple(sorted(parts)) if op == "equal" else tuple(parts)


def _sort_made(signature, op, value, sorts):
    """The sort of a node of this op with parts of these sorts, or None if they do not fit."""
    if op == "call":
        fits = tuple(sorts) == signature.arguments_of(value)
        return signature.result_of(value) if fits else None
    if op == "if":
        fits = len(sorts) == 3 and sorts[0] == "truth" and sorts[1] == sorts[2]
        return sorts[1] if fits else None
    if op in LEAF_SORTS:
        return LEAF_SORTS[op] if not sorts else None
    if op in SUMS:
        return SUMS[op] if _sum_fits(op, sorts) else None
    if op in CONNECTIVES:
        return "truth" if _connective_fits(op, sorts) else None
    return "truth" if _comparison_fits(op, sorts) else None


def _sum_fits(op, sorts):
    enough = len(sorts) >= 2 if op == "sum" else len(sorts) == 1
    return enough and _all_of(sorts, SUMS[op])


def _connective_fits(op, sorts):
    counts = {"not": 1, "imply": 2}
    return len(sorts) == counts.get(op, len(sorts)) and _all_of(sorts, "truth")


def _comparison_fits(op, sorts):
    if len(sorts) < 2 or not _all_of(sorts, sorts[0]):
        return False
    if op == "distinct":
        return True
    return len(sorts) == 2 and (op == "equal" or sorts[0] in ("whole", "ratio"))


def _all_of(sorts, wanted):
    return all(sort == wanted for sort in sorts)
