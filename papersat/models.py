"""Models: a table and a default for each declared function."""

from math import gcd

from papersat.errors import BadModel, BadText, UnknownName
from papersat.numerals import read_whole, whole_text
from papersat.ratios import ZERO, parse_ratio, ratio_text
from papersat.words import is_ratio_word, is_whole_word


class Model:
    """Values for the functions of a signature."""

    def __init__(self, signature):
        self.signature = signature
        self._tables = {}
        self._defaults = {}

    def give(self, name, arguments, value):
        """Sets the value of a function for some arguments."""
        sorts = self.signature.arguments_of(name)
        if len(arguments) != len(sorts):
            raise BadModel(name)
        for sort, argument in zip(sorts, arguments):
            if not _is_value(sort, argument):
                raise BadModel(name)
        if not _is_value(self.signature.result_of(name), value):
            raise BadModel(name)
        table = self._tables.setdefault(name, {})
        table[tuple(arguments)] = value

    def otherwise(self, name, value):
        """Sets the default of a function."""
        if not _is_value(self.signature.result_of(name), value):
            raise BadModel(name)
        self._defaults[name] = value

    def look(self, name, arguments):
        """The value of a function for some arguments."""
        default = self.default_of(name)
        return self._tables.get(name, {}).get(tuple(arguments), default)

    def rows_of(self, name):
        """The pairs (arguments, value) of the table, the arguments ascending."""
        if not self.signature.knows_function(name):
            raise UnknownName(name)
        return sorted(self._tables.get(name, {}).items())

    def default_of(self, name):
        """The default of a function."""
        first = _first_value(self.signature.result_of(name))
        return self._defaults.get(name, first)


def model_text(model):
    """The text of a model."""
    lines = []
    for name in model.signature.functions():
        sorts = model.signature.arguments_of(name)
        result = model.signature.result_of(name)
        for arguments, value in model.rows_of(name):
            words = [_value_word(sort, argument) for sort, argument in zip(sorts, arguments)]
            lines.append(" ".join([name, *words, "is", _value_word(result, value)]))
        lines.append(" ".join([name, "else", _value_word(result, model.default_of(name))]))
    return "\n".join(lines)


def read_model(signature, text):
    """The model that a text says."""
    model = Model(signature)
    lines = text.split("\n") if text else []
    seen = {}
    for k, line in enumerate(lines):
        name, arguments, value = _read_line(signature, line, k)
        if (name, arguments) in seen:
            raise BadText(k)
        seen[(name, arguments)] = True
        if arguments is None:
            model.otherwise(name, value)
        else:
            model.give(name, arguments, value)
    return model


def _read_line(signature, line, k):
    """The function, the arguments and the value of line k; the arguments of a default are None."""
    words = line.split(" ")
    name = words[0]
    sorts = signature.arguments_of(name)
    if len(words) == len(sorts) + 3 and words[-2] == "is":
        arguments = tuple([_read_value(sort, word, k) for sort, word in zip(sorts, words[1:-2])])
    elif len(words) == 3 and words[1] == "else":
        arguments = None
    else:
        raise BadText(k)
    return (name, arguments, _read_value(signature.result_of(name), words[-1], k))


def _read_value(sort, word, k):
    """The value of the sort that a word of line k stands for."""
    if sort == "truth":
        if word not in ("true", "false"):
            raise BadText(k)
        return word == "true"
    if sort == "ratio":
        if not is_ratio_word(word):
            raise BadText(k)
        return parse_ratio(word)
    if not is_whole_word(word) or (sort != "whole" and word.startswith("-")):
        raise BadText(k)
    return read_whole(word)


def _value_word(sort, value):
    if sort == "truth":
        return "true" if value else "false"
    return ratio_text(value) if sort == "ratio" else whole_text(value)


def _first_value(sort):
    """The default of a function before one is set."""
    if sort == "truth":
        return False
    return ZERO if sort == "ratio" else 0


def _is_value(sort, value):
    """True if this is exactly a value of the sort."""
    if sort == "truth":
        return isinstance(value, bool)
    if sort == "ratio":
        return _is_ratio(value)
    return _is_integer(value) and (sort == "whole" or value >= 0)


def _is_integer(value):
    # For Python, True and False are integers; here they are not.
    return isinstance(value, int) and not isinstance(value, bool)


def _is_ratio(value):
    if not isinstance(value, tuple) or len(value) != 2:
        return False
    if not _is_integer(value[0]) or not _is_integer(value[1]):
        return False
    return value[1] >= 1 and gcd(value[0], value[1]) == 1
