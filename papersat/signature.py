"""Signatures: the declared sorts and functions."""

from papersat.errors import BadName, BadSort, NameTaken, UnknownName
from papersat.words import is_name

BASE_SORTS = ("truth", "whole", "ratio")


class Signature:
    """The sorts and functions that a user declares."""

    def __init__(self):
        self._sorts = {}
        self._functions = {}

    def declare_sort(self, name):
        """Adds a sort."""
        self._refuse_name(name)
        self._sorts[name] = True

    def declare_function(self, name, arguments, result):
        """Adds a function from argument sorts to a result sort."""
        self._refuse_name(name)
        for sort in arguments:
            if not self.knows_sort(sort):
                raise UnknownName(sort)
            if sort == "truth":
                raise BadSort("call")
        if not self.knows_sort(result):
            raise UnknownName(result)
        self._functions[name] = (tuple(arguments), result)

    def sorts(self):
        """The declared sorts in the order of declaration."""
        return list(self._sorts)

    def functions(self):
        """The declared functions in the order of declaration."""
        return list(self._functions)

    def knows_sort(self, name):
        """True for truth, whole, ratio and the declared sorts."""
        return name in BASE_SORTS or name in self._sorts

    def knows_function(self, name):
        """True for the declared functions."""
        return name in self._functions

    def arguments_of(self, name):
        """The tuple of the argument sorts of a function."""
        return self._function(name)[0]

    def result_of(self, name):
        """The result sort of a function."""
        return self._function(name)[1]

    def _function(self, name):
        if name not in self._functions:
            raise UnknownName(name)
        return self._functions[name]

    def _refuse_name(self, name):
        if not is_name(name):
            raise BadName(name)
        if name in self._sorts or name in self._functions:
            raise NameTaken(name)
