"""Sentences made by chance, over the signature of tests/support.py."""

NAMES = {"whole": "xyz", "ratio": "stu", "thing": "abc"}


def some_term(chance, sort, depth):
    """The text of a term of sort whole, ratio, thing or place."""
    if sort == "place":
        return "home" if chance.random() < 0.4 or depth == 0 else f"(at {some_term(chance, 'thing', depth - 1)})"
    kind = chance.randrange(7)
    if depth == 0 or kind < 2:
        return chance.choice(NAMES[sort])

    def part(part_sort=sort):
        return some_term(chance, part_sort, depth - 1)

    if kind == 2:
        return f"(if {some_atom(chance, depth - 1)} {part()} {part()})"
    if sort == "thing":
        return f"(h {part()} {part()})"
    if kind in (3, 4):
        return f"(f {part()})" if sort == "whole" else f"(g {part()} {part('whole')})"
    if sort == "whole":
        return str(chance.randrange(-2, 3)) if kind == 5 else f"(+ {part()} {chance.randrange(-2, 3)})"
    number = f"{chance.randrange(-2, 3)}/{chance.randrange(1, 3)}"
    if kind == 5:
        return number
    return f"(* {number} {part()})" if chance.random() < 0.5 else f"(+ {part()} {part()})"


def some_atom(chance, depth):
    """The text of a term of sort truth that is not made of others of sort truth at its top."""
    kind = chance.randrange(9)
    if depth <= 0 or kind == 0:
        return chance.choice("pqr")
    sort = chance.choice(("whole", "ratio", "thing", "place"))
    if kind in (1, 2, 3):
        return f"(= {some_term(chance, sort, depth - 1)} {some_term(chance, sort, depth - 1)})"
    if kind in (4, 5, 6):
        sort = chance.choice(("whole", "ratio"))
        return f"({chance.choice(('<', '<='))} {some_term(chance, sort, depth)} {some_term(chance, sort, depth)})"
    if kind == 7:
        return f"(is_old {some_term(chance, 'thing', depth - 1)})"
    return f"(distinct {' '.join(some_term(chance, sort, depth - 1) for _ in range(chance.randrange(2, 4)))})"


def some_sentence(chance, depth):
    """The text of a disjunction of some atoms and negations of atoms."""
    parts = [some_atom(chance, depth) for _ in range(chance.choice((1, 1, 2, 2, 3)))]
    return f"(or {' '.join(part if chance.random() < 0.5 else f'(not {part})' for part in parts)})"
