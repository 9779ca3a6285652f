"""What several tests share."""

from papersat.bank import Bank
from papersat.signature import Signature


def new_signature():
    """A signature with a function of each kind."""
    signature = Signature()
    signature.declare_sort("thing")
    signature.declare_sort("place")
    for name in ("p", "q", "r"):
        signature.declare_function(name, [], "truth")
    for name in ("x", "y", "z"):
        signature.declare_function(name, [], "whole")
    for name in ("s", "t", "u"):
        signature.declare_function(name, [], "ratio")
    for name in ("a", "b", "c"):
        signature.declare_function(name, [], "thing")
    signature.declare_function("home", [], "place")
    signature.declare_function("f", ["whole"], "whole")
    signature.declare_function("g", ["ratio", "whole"], "ratio")
    signature.declare_function("h", ["thing", "thing"], "thing")
    signature.declare_function("is_old", ["thing"], "truth")
    signature.declare_function("at", ["thing"], "place")
    return signature


def new_bank():
    """An empty bank over such a signature."""
    return Bank(new_signature())


def call(bank, name, *parts):
    """The call of a function."""
    return bank.make("call", name, parts)
