"""Sentences made by chance, over the signature of tests/support.py."""

NAMES = {"whole": "xyz", "ratio": "stu", "thing": "abc"}


def some_term(chance, sort, depth):
    """The text of a term of sort whole, ratio, thing or place."""
    if sort == "place":
        return "home" if chance.random() < 0.4 or depth == 0 else f"(at {some_term(chance, 'thing', depth - 1)})"
    kind = chance.randrange(7)
    if depth == 0 or kind < 2:
        return chance.choice(NAMES[sort])

    def part(part_sort=sort):
        return some_term(chance, part_sort, depth - 1)

    if kind == 2:
        return f"(if {some_atom(chance, depth - 1)} {part()} {part()})"
    if sort == "thing":
        return f"(h {part()} {part()})"
    if kind in (3, 4):
        return f"(f {part()})" if sort == "whole" else f"(g {part()} {part('whole')})"
    if sort == "whole":
        return str(chance.randrange(-2, 3)) if kind == 5 else f"(+ {part()} {chance.randrange(-2, 3)})"
    number = f"{chance.randrange(-2, 3)}/{chance.randrange(1, 3)}"
    if kind == 5:
        return number
    return f"(* {number} {part()})" if chance.random() < 0.5 else f"(+ {part()} {part()})"


def some_atom(chance, depth):
    """The text of a term of sort truth that is not made of others of sort truth at its top."""
    kind = chance.randrange(9)
    if depth <= 0 or kind == 0:
        return chance.choice("pqr")
    sort = chance.choice(("whole", "ratio", "thing", "place"))
    if kind in (1, 2, 3):
        return f"(= {some_term(chance, sort, depth - 1)} {some_term(chance, sort, depth - 1)})"
    if kind in (4, 5, 6):
        sort = chance.choice(("whole", "ratio"))
        return f"({chance.choice(('<', '<='))} {some_term(chance, sort, depth)} {some_term(chance, sort, depth)})"
    if kind == 7:
        return f"(is_old {some_term(chance, 'thing', depth - 1)})"
    return f"(distinct {' '.join(some_term(chance, sort, depth - 1) for _ in range(chance.randrange(2, 4)))})"


def some_sentence(chance, depth):
    """The text of a disjunction of some atoms and negations of atoms."""
    parts = [some_atom(chance, depth) for _ in range(chance.choice((1, 1, 2, 2, 3)))]
    return f"(or {' '.join(part if chance.random() < 0.5 else f'(not {part})' for part in parts)})"


def knotted_sentences(chance, count, width=2):
    """The texts of sentences over few atoms, which often cannot be true together for deeper reasons."""
    def whole():
        return chance.choice(("x", "y", "z", "(f x)", "(f y)", f"(+ x {chance.randrange(-2, 3)})", f"(+ y {chance.randrange(-2, 3)})", "1"))

    def fraction():
        return chance.choice(("s", "t", "(g s x)", "(g t x)", "(g s y)", "(+ s t)", "(* 1/2 s)", "1/2"))

    def thing():
        return chance.choice(("a", "b", "c", "(h a b)", "(h b a)", "(h c c)", "(if p a b)"))

    def atom():
        kind = chance.randrange(8)
        if kind < 3:
            return f"({chance.choice(('<', '<=', '='))} {whole()} {whole()})"
        if kind < 5:
            return f"({chance.choice(('<', '<=', '='))} {fraction()} {fraction()})"
        if kind < 7:
            return f"(= {thing()} {thing()})"
        return f"(is_old {thing()})"

    atoms = [atom() for _ in range(count // 2 if width == 2 else count // 4 + 2)]
    sentences = []
    for _ in range(count):
        parts = chance.sample(atoms, min(width, len(atoms)))
        sentences.append(f"(or {' '.join(part if chance.random() < 0.5 else f'(not {part})' for part in parts)})")
    return sentences
