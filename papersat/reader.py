"""Reading a text as a term."""

from papersat.errors import BadSort, BadText, NameTaken, UnknownName
from papersat.numerals import read_whole
from papersat.ratios import parse_ratio
from papersat.scanner import scan
from papersat.words import is_name, is_ratio_word, is_whole_word

HEAD_OPS = {
    "not": "not", "and": "and", "or": "or", "imply": "imply", "if": "if", "distinct": "distinct",
    "=": "equal", "<=": "most", "<": "less",
}
SUM_HEADS = ("+", "*")


class Cursor:
    """The words of a text, taken from left to right."""

    def __init__(self, text):
        self._pairs = scan(text)
        self._length = len(text)
        self._taken = 0

    def sees(self, word):
        """True if the next word is this one."""
        return not self.is_done() and self._pairs[self._taken][0] == word

    def is_done(self):
        """True if no word is left."""
        return self._taken == len(self._pairs)

    def pull(self):
        """Takes the next word and returns it with its place."""
        if self.is_done():
            raise BadText(self._length)
        self._taken += 1
        return self._pairs[self._taken - 1]

    def need(self, wanted):
        """Takes the next word, which has to be this one."""
        word, place = self.pull()
        if word != wanted:
            raise BadText(place)


def parse(bank, text):
    """The number of the node of the term that the text says."""
    cursor = Cursor(text)
    node = _read_term(bank, cursor, {})
    if not cursor.is_done():
        _, place = cursor.pull()
        raise BadText(place)
    return node


def _read_term(bank, cursor, bound):
    """Reads a term; `bound` has the nodes of the names that enclosing lets bind."""
    word, place = cursor.pull()
    if word != "(":
        return _read_word(bank, word, place, bound)
    head, place = cursor.pull()
    if head == "let":
        return _read_let(bank, cursor, bound)
    _check_head(bank, head, place, bound)
    parts = []
    while not cursor.sees(")"):
        parts.append(_read_term(bank, cursor, bound))
    cursor.need(")")
    return _make_compound(bank, head, parts)


def _read_word(bank, word, place, bound):
    if word in ("true", "false"):
        return bank.make(word, None, ())
    if is_whole_word(word):
        return bank.make("whole", read_whole(word), ())
    if is_ratio_word(word):
        return bank.make("ratio", parse_ratio(word), ())
    if word in bound:
        return bound[word]
    if is_name(word):
        # A name that is no function is unknown to the bank, too.
        return bank.make("call", word, ())
    raise BadText(place)


def _check_head(bank, head, place, bound):
    if head in HEAD_OPS or head in SUM_HEADS:
        return
    if head in bound or not is_name(head):
        raise BadText(place)
    if not bank.signature.knows_function(head):
        raise UnknownName(head)


def _read_let(bank, cursor, bound):
    """Reads what follows the word `let`."""
    fresh = {}
    cursor.need("(")
    while cursor.sees("("):
        cursor.need("(")
        name, place = cursor.pull()
        _check_binding(bank, name, place, fresh)
        # The term does not see the names of its own list.
        fresh[name] = _read_term(bank, cursor, bound)
        cursor.need(")")
    cursor.need(")")
    inner = dict(bound)
    inner.update(fresh)
    node = _read_term(bank, cursor, inner)
    cursor.need(")")
    return node


def _check_binding(bank, name, place, fresh):
    if not is_name(name):
        raise BadText(place)
    if bank.signature.knows_sort(name) or bank.signature.knows_function(name) or name in fresh:
        raise NameTaken(name)


def _make_compound(bank, head, parts):
    if head == "+":
        return _make_plus(bank, parts)
    if head == "*":
        return _make_times(bank, parts)
    if head in HEAD_OPS:
        return bank.make(HEAD_OPS[head], None, parts)
    return bank.make("call", head, parts)


def _make_plus(bank, parts):
    """A shift if the first part has sort whole, otherwise a sum."""
    if not parts or bank.sort_of(parts[0]) != "whole":
        return bank.make("sum", None, parts)
    if len(parts) != 2:
        raise BadSort("shift")
    op, offset, _ = bank.node(parts[1])
    if op != "whole":
        raise BadSort("shift")
    return bank.make("shift", offset, parts[:1])


def _make_times(bank, parts):
    if len(parts) != 2:
        raise BadSort("scale")
    op, factor, _ = bank.node(parts[0])
    if op != "ratio":
        raise BadSort("scale")
    return bank.make("scale", factor, parts[1:])
