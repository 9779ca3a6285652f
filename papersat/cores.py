"""Least cores: sentences that cannot be true together, but can as soon as any one is left out."""

from papersat.solver import solve


def least_core(bank, sentences, *, kept=None):
    """None if all can be true together, otherwise the answer for a least core and its models."""
    core = solve(bank, sentences, kept=kept).core
    if core is None:
        return None
    models = {}
    for sentence in list(core):
        # An earlier answer may have shown that this sentence is not needed.
        if sentence in core:
            answer = solve(bank, [each for each in core if each != sentence], kept=kept)
            if answer.yes:
                models[sentence] = answer.model
            else:
                core = answer.core
    # A model for a greater core without one sentence is one for the least core without it, too.
    return (solve(bank, core, kept=kept), [models[sentence] for sentence in core])
