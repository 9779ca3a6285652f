"""Sign rows: which combinations of truth values some sentences take."""

from papersat.sentences import read_sentences
from papersat.solver import solve


def sign_rows(desk, texts):
    """The list of pairs of signs and answer for all signs of the sentences of the texts."""
    bank = desk.bank
    sentences = read_sentences(bank, texts)
    negations = [bank.make("not", None, (sentence,)) for sentence in sentences]
    answers = []
    for signs in _all_signs(len(sentences)):
        chosen = [yes if sign else no for sign, yes, no in zip(signs, sentences, negations)]
        answers.append((signs, solve(bank, desk.standing() + chosen, kept=desk.kept)))
    return answers


def _all_signs(count):
    """All tuples of as many truth values, ascending."""
    rows = [()]
    for _ in range(count):
        rows = [row + (sign,) for row in rows for sign in (False, True)]
    return rows
