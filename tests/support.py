"""What several tests share."""

import random

from papersat.bank import Bank
from papersat.models import Model
from papersat.ratios import ratio
from papersat.signature import Signature


def new_signature():
    """A signature with a function of each kind."""
    signature = Signature()
    signature.declare_sort("thing")
    signature.declare_sort("place")
    for name in ("p", "q", "r"):
        signature.declare_function(name, [], "truth")
    for name in ("x", "y", "z"):
        signature.declare_function(name, [], "whole")
    for name in ("s", "t", "u"):
        signature.declare_function(name, [], "ratio")
    for name in ("a", "b", "c"):
        signature.declare_function(name, [], "thing")
    signature.declare_function("home", [], "place")
    signature.declare_function("f", ["whole"], "whole")
    signature.declare_function("g", ["ratio", "whole"], "ratio")
    signature.declare_function("h", ["thing", "thing"], "thing")
    signature.declare_function("is_old", ["thing"], "truth")
    signature.declare_function("at", ["thing"], "place")
    return signature


def new_bank():
    """An empty bank over such a signature."""
    return Bank(new_signature())


def call(bank, name, *parts):
    """The call of a function."""
    return bank.make("call", name, parts)


def some_terms(seed, count):
    """A bank with as many more nodes, made by chance, some of them with many parts in common."""
    chance = random.Random(seed)
    bank = new_bank()
    by_sort = {"truth": [1, 2], "whole": [], "ratio": [], "thing": [], "place": []}
    for name in bank.signature.functions():
        if not bank.signature.arguments_of(name):
            by_sort[bank.signature.result_of(name)].append(call(bank, name))
    while len(bank) < count:
        sort, number = _some_node(chance, bank, by_sort)
        if number not in by_sort[sort]:
            by_sort[sort].append(number)
    return bank


def _some_node(chance, bank, by_sort):
    def pick(sort):
        return chance.choice(by_sort[sort][-8:])

    any_sort = chance.choice(list(by_sort))
    number_sort = chance.choice(["whole", "ratio"])
    value = None
    op = chance.choice(
        "not and or imply if equal distinct most less whole shift ratio sum scale call".split()
    )
    if op in ("not", "and", "or", "imply"):
        counts = {"not": 1, "imply": 2}
        parts = [pick("truth") for _ in range(counts.get(op, chance.randrange(4)))]
    elif op == "if":
        parts = [pick("truth"), pick(any_sort), pick(any_sort)]
    elif op in ("equal", "distinct"):
        parts = [pick(any_sort) for _ in range(2 if op == "equal" else chance.randrange(2, 4))]
    elif op in ("most", "less"):
        parts = [pick(number_sort), pick(number_sort)]
    elif op in ("whole", "shift"):
        value = chance.randrange(-3, 4)
        parts = [pick("whole")] if op == "shift" else []
    elif op == "call":
        value = chance.choice([name for name in bank.signature.functions() if bank.signature.arguments_of(name)])
        parts = [pick(sort) for sort in bank.signature.arguments_of(value)]
    else:
        value = None if op == "sum" else ratio(chance.randrange(-3, 4), chance.randrange(1, 4))
        parts = [pick("ratio") for _ in range({"ratio": 0, "scale": 1}.get(op, chance.randrange(2, 4)))]
    number = bank.make(op, value, parts)
    return bank.sort_of(number), number


def some_model(seed, signature):
    """A model with values made by chance."""
    chance = random.Random(seed)

    def value(sort):
        if sort == "truth":
            return chance.random() < 0.5
        if sort == "whole":
            return chance.randrange(-2, 3)
        if sort == "ratio":
            return ratio(chance.randrange(-2, 3), chance.randrange(1, 3))
        return chance.randrange(2)

    model = Model(signature)
    for name in signature.functions():
        sorts = signature.arguments_of(name)
        model.otherwise(name, value(signature.result_of(name)))
        for _ in range(4):
            model.give(name, [value(sort) for sort in sorts], value(signature.result_of(name)))
    return model
