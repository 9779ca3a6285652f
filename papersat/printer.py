"""The texts of terms."""

from papersat.bank import subterms
from papersat.numerals import whole_text
from papersat.ratios import ratio_text

HEADS = {"equal": "=", "most": "<=", "less": "<", "shift": "+", "sum": "+", "scale": "*"}


def print_term(bank, node):
    """The text of a term."""
    texts = {}
    for number in subterms(bank, [node]):
        texts[number] = _text_of(bank, number, texts)
    return texts[node]


def text_length(bank, node):
    """The length of the text of a term, which may be too long to be written."""
    lengths = {}
    for number in subterms(bank, [node]):
        before, parts, after = _pieces(bank, number)
        sizes = [len(word) for word in before + after] + [lengths[part] for part in parts]
        # One space between two words, and two parentheses unless the text is one word.
        lengths[number] = sum(sizes) + len(sizes) - 1 + (0 if _is_word(bank, number) else 2)
    return lengths[node]


def print_shared(bank, node):
    """The text of a term that writes each shared subterm once."""
    numbers = subterms(bank, [node])
    shared = _shared(bank, numbers)
    letters = "v" * _letter_count(bank.signature)
    bindings = []
    written = {}
    for number in numbers:
        text = _text_of(bank, number, written)
        if number in shared:
            name = f"{letters}{number}"
            bindings.append(f"(let (({name} {text})) ")
            text = name
        written[number] = text
    return "".join(bindings) + written[node] + ")" * len(bindings)


def _text_of(bank, node, texts):
    """The text of a node, with these texts for its parts."""
    before, parts, after = _pieces(bank, node)
    text = " ".join(before + [texts[part] for part in parts] + after)
    return text if _is_word(bank, node) else f"({text})"


def _pieces(bank, node):
    """The words before the parts of a node, the parts, and the words after them."""
    op, value, parts = bank.node(node)
    if op == "whole":
        return ([whole_text(value)], parts, [])
    if op == "ratio":
        return ([ratio_text(value)], parts, [])
    if op == "call":
        return ([value], parts, [])
    if op == "shift":
        return ([HEADS[op]], parts, [whole_text(value)])
    if op == "scale":
        return ([HEADS[op], ratio_text(value)], parts, [])
    return ([HEADS.get(op, op)], parts, [])


def _is_word(bank, node):
    """True if the text of a node is one word, without parentheses."""
    op, _, parts = bank.node(node)
    return not parts and op not in ("and", "or")


def _shared(bank, numbers):
    """A dict with the nodes among these that have parts and are parts at least twice."""
    counts = {number: 0 for number in numbers}
    for number in numbers:
        for part in bank.node(number)[2]:
            counts[part] += 1
    return {number: True for number in numbers if counts[number] >= 2 and bank.node(number)[2]}


def _letter_count(signature):
    """The least count of letters `v` that with digits behind them are no declared name."""
    taken = {}
    for name in signature.sorts() + signature.functions():
        digits = name.lstrip("v")
        if digits.isdigit():
            taken[len(name) - len(digits)] = True
    count = 1
    while count in taken:
        count += 1
    return count
