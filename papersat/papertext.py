"""The texts of lists of steps: first the nodes that occur in them, then the steps."""

from papersat.bank import Bank, subterms
from papersat.errors import BadText
from papersat.numerals import read_whole, whole_text
from papersat.ratios import parse_ratio, ratio_text
from papersat.words import is_ratio_word, is_whole_word

WHOLE_OPS = ("whole", "shift")
RATIO_OPS = ("ratio", "scale")
VALUED_OPS = ("whole", "shift", "ratio", "scale", "call")
KINDS = ("part", "same", "chain", "like", "sum", "resolve")


def write_paper(bank, steps):
    """The text of a list of steps."""
    numbers = {1: 1, 2: 2}
    lines = []
    for node in subterms(bank, _nodes_of_steps(steps)):
        if node not in numbers:
            numbers[node] = len(numbers) + 1
            lines.append(_node_line(bank, node, numbers))
    for place, step in enumerate(steps):
        lines.append(_step_line(place, step, numbers))
    return "\n".join(lines)


def read_paper(signature, text):
    """A new bank and the list of steps over it that a text says."""
    bank = Bank(signature)
    steps = []
    lines = text.split("\n") if text else []
    for k, line in enumerate(lines):
        words = line.split(" ")
        if "" in words:
            raise BadText(k)
        if words[0] == "node" and not steps:
            _read_node(bank, words, k)
        elif words[0] == "step":
            steps.append(_read_step(words, len(steps), k))
        else:
            raise BadText(k)
    return (bank, steps)


def _nodes_of_steps(steps):
    """The list of the nodes that occur in the steps, each once."""
    found = {}
    for kind, clause, details in steps:
        found.update({abs(literal): True for literal in clause})
        found.update({node: True for node in _nodes_of_details(kind, details)})
    return list(found)


def _nodes_of_details(kind, details):
    if kind == "part":
        return [details]
    if kind == "chain":
        return [details[0], *details[1]]
    if kind == "like":
        return list(details)
    if kind == "resolve":
        return [abs(literal) for literal, _ in details[1]]
    return []


def _node_line(bank, node, numbers):
    op, value, parts = bank.node(node)
    words = ["node", str(numbers[node]), op]
    if op in VALUED_OPS:
        words.append(_value_word(op, value))
    return " ".join(words + [str(numbers[part]) for part in parts])


def _value_word(op, value):
    if op in WHOLE_OPS:
        return whole_text(value)
    return ratio_text(value) if op in RATIO_OPS else value


def _step_line(place, step, numbers):
    kind, clause, details = step
    words = ["step", str(place), kind] + [_literal_word(literal, numbers) for literal in clause]
    return " ".join(words + [":"] + _detail_words(kind, details, numbers))


def _literal_word(literal, numbers):
    return str(numbers[literal]) if literal > 0 else f"-{numbers[-literal]}"


def _detail_words(kind, details, numbers):
    if kind == "sum":
        return [ratio_text(weight) for weight in details]
    if kind != "resolve":
        return [str(numbers[node]) for node in _nodes_of_details(kind, details)]
    first, strikes = details
    words = [whole_text(first)]
    for literal, number in strikes:
        words.extend([_literal_word(literal, numbers), whole_text(number)])
    return words


def _read_node(bank, words, k):
    """Makes the node of a line."""
    if len(words) < 3:
        raise BadText(k)
    number = _read_number(words[1], k)
    op = words[2]
    value = None
    rest = words[3:]
    if op in VALUED_OPS:
        value = _read_value(op, rest[:1], k)
        rest = rest[1:]
    parts = _read_numbers(rest, k)
    count = len(bank)
    made = bank.make(op, value, parts)
    if made != number or made <= count or bank.node(made)[2] != tuple(parts):
        raise BadText(k)


def _read_value(op, words, k):
    """The value of a node; the list has its word, unless the line has ended before it."""
    if not words or op in WHOLE_OPS and not is_whole_word(words[0]):
        raise BadText(k)
    if op in WHOLE_OPS:
        return read_whole(words[0])
    return _read_ratio(words[0], k) if op in RATIO_OPS else words[0]


def _read_step(words, count, k):
    """The step of a line that stands behind `count` steps."""
    if len(words) < 4 or words[2] not in KINDS or ":" not in words:
        raise BadText(k)
    if _read_number(words[1], k) != count:
        raise BadText(k)
    kind = words[2]
    colon = words.index(":")
    clause = [_read_literal(word, k) for word in words[3:colon]]
    return (kind, tuple(clause), _read_details(kind, words[colon + 1:], k))


def _read_details(kind, words, k):
    if kind == "sum":
        return tuple([_read_weight(word, k) for word in words])
    if not _count_fits(kind, len(words)):
        raise BadText(k)
    if kind == "resolve":
        strikes = [(_read_literal(one, k), _read_number(two, k)) for one, two in zip(words[1::2], words[2::2])]
        return (_read_number(words[0], k), tuple(strikes))
    nodes = _read_numbers(words, k)
    if kind == "chain":
        return (nodes[0], tuple(nodes[1:]))
    if kind == "like":
        return tuple(nodes)
    return nodes[0] if kind == "part" else None


def _count_fits(kind, count):
    """True if the details of a step of this kind may have as many words."""
    if kind == "resolve":
        return count % 2 == 1
    if kind == "chain":
        return count >= 1
    return count == {"part": 1, "same": 0, "like": 2}[kind]


def _read_numbers(words, k):
    return [_read_number(word, k) for word in words]


def _read_number(word, k):
    """The number of a node or a step, which has no minus sign."""
    if not is_whole_word(word) or word.startswith("-"):
        raise BadText(k)
    return read_whole(word)


def _read_literal(word, k):
    if not is_whole_word(word) or word == "0":
        raise BadText(k)
    return read_whole(word)


def _read_ratio(word, k):
    if not is_ratio_word(word):
        raise BadText(k)
    return parse_ratio(word)


def _read_weight(word, k):
    weight = _read_ratio(word, k)
    if weight[0] <= 0:
        raise BadText(k)
    return weight
