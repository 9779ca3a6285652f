"""Desks for the tests, and texts that no desk takes."""

from papersat.desk import Desk
from papersat.errors import BadSort, BadText, NameTaken, UnknownName

FUNCTIONS = (
    ("p", [], "truth"), ("q", [], "truth"), ("r", [], "truth"), ("x", [], "whole"), ("y", [], "whole"), ("z", [], "whole"),
    ("s", [], "ratio"), ("t", [], "ratio"), ("a", [], "thing"), ("b", [], "thing"), ("c", [], "thing"), ("f", ["whole"], "whole"),
    ("g", ["ratio", "whole"], "ratio"), ("h", ["thing", "thing"], "thing"), ("is_old", ["thing"], "truth"),
)

# Texts that no desk takes as a sentence, with their errors.
REFUSED = (
    ("", BadText, "place", 0), ("(and p", BadText, "place", 6), ("p q", BadText, "place", 2), ("p\tq", BadText, "place", 1),
    ("nobody", UnknownName, "name", "nobody"), ("(nobody p)", UnknownName, "name", "nobody"), ("thing", UnknownName, "name", "thing"),
    ("(not x)", BadSort, "op", "not"), ("(= x a)", BadSort, "op", "equal"), ("x", BadSort, "op", "call"), ("5", BadSort, "op", "whole"),
    ("(+ x 1)", BadSort, "op", "shift"), ("1/2", BadSort, "op", "ratio"), ("(* 1/2 s)", BadSort, "op", "scale"), ("(if p x y)", BadSort, "op", "if"),
    ("(let ((x p)) x)", NameTaken, "name", "x"), ("(h a b)", BadSort, "op", "call"), ("(+ s t)", BadSort, "op", "sum"),
)


def new_desk():
    desk = Desk()
    desk.declare_sort("thing")
    for name, arguments, result in FUNCTIONS:
        desk.declare_function(name, arguments, result)
    return desk
