"""Sentences: terms of sort truth that are to be solved together."""

from papersat.errors import BadSort
from papersat.reader import parse


def refuse_other_sorts(bank, node, sort):
    """Raises BadSort with the op of the node if it has another sort."""
    if bank.sort_of(node) != sort:
        raise BadSort(bank.node(node)[0])


def read_sentence(bank, text):
    """The node of a text, which has to have sort truth."""
    node = parse(bank, text)
    refuse_other_sorts(bank, node, "truth")
    return node


def read_sentences(bank, texts):
    """The list of the nodes of some texts; each one is looked at before the next one is read."""
    return [read_sentence(bank, text) for text in texts]
