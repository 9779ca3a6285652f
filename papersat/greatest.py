"""The greatest difference of two terms of sort whole under the standing sentences of a desk."""

from papersat.forms import literal_form, term_form
from papersat.log import Log
from papersat.meaning import meaning
from papersat.meeting import question
from papersat.reader import parse
from papersat.sentences import refuse_other_sorts
from papersat.solver import solve


def greatest(desk, first, second):
    """The greatest value of the first term minus the second, with the answers that show it."""
    s = parse(desk.bank, first)
    t = parse(desk.bank, second)
    for node in (s, t):
        refuse_other_sorts(desk.bank, node, "whole")
    reached = solve(desk.bank, desk.standing(), kept=desk.kept)
    if not reached.yes:
        return ("no", None, reached)
    bound = _bound(desk, s, t)
    refused = _solve_at_least(desk, s, t, bound + 1)
    if refused.yes:
        return ("unbounded", None, refused)
    return _halve(desk, (s, t), reached, (bound, refused))


def _halve(desk, terms, reached, least_refused):
    """Halves the span between a value that is reached and the greatest one that is not refused."""
    s, t = terms
    high, refused = least_refused
    low = _difference(desk.bank, reached.model, s, t)
    while low < high:
        middle = (low + high + 1) // 2
        answer = _solve_at_least(desk, s, t, middle)
        if answer.yes:
            reached = answer
            low = _difference(desk.bank, answer.model, s, t)
        else:
            refused = answer
            high = middle - 1
    return ("greatest", low, (reached, refused))


def _solve_at_least(desk, s, t, k):
    """The answer for the standing sentences and the sentence that s is at least t plus k."""
    shifted = desk.bank.make("shift", k, (t,))
    sentence = desk.bank.make("most", None, (shifted, s))
    return solve(desk.bank, desk.standing() + [sentence], kept=desk.kept)


def _difference(bank, model, s, t):
    return meaning(bank, model, s) - meaning(bank, model, t)


def _bound(desk, s, t):
    """A number that no chain of limits in the question adds up to more than."""
    bank = desk.bank
    asked = desk.standing() + [bank.make("most", None, (s, t))]
    nodes, _ = question(bank, Log(), asked)
    total = 1 + _size(term_form(bank, s)) + _size(term_form(bank, t))
    for node in nodes:
        op, _, parts = bank.node(node)
        if op == "most" and bank.sort_of(parts[0]) == "whole":
            form, _ = literal_form(bank, node)
            total += 1 + _size(form)
    return total


def _size(form):
    """The absolute value of the constant of the form of whole numbers."""
    (constant, _), _ = form
    return abs(constant)
