"""Reasons: good steps for what the classes of a classes object say.

A pair of points of one class is plain if its path is one edge with a label other than 0. That label
is its `equal` node, so it needs no step. For each other pair there is a `like` or a `chain` step that
leans on further pairs. In the end the pairs that are not plain are resolved away.
"""

from papersat.clauses import clause_of


def reason_step(bank, classes, log, a, b):
    """The number of the step for the explanation of two points of one class, or None."""
    if _is_plain(classes, a, b):
        return None
    first = _pair_step(bank, classes, log, a, b)
    strikes = _strikes(bank, classes, log, _leans(bank, classes, a, b))
    return _resolved(log, first, strikes)


def clash_step(bank, classes, log):
    """The number of the step for the explanation of 1 and 2 being in one class."""
    # Between 1 and 2 stand calls of one function, each equal to the next by its parts.
    calls = [y for _, y, _ in classes.path(1, 2)[:-1]]
    numbers = [_like_step(bank, log, u, v) for u, v in zip(calls, calls[1:])]
    leans = []
    for u, v in zip(calls, calls[1:]):
        leans.extend(_not_plain(classes, _part_pairs(bank, u, v)))
    links = list(zip(calls[1:-1], numbers[1:]))
    return _resolved(log, numbers[0], links + _strikes(bank, classes, log, leans))


def _is_plain(classes, a, b):
    path = classes.path(a, b)
    return len(path) == 1 and path[0][2] != 0


def _not_plain(classes, pairs):
    """Those of the pairs that are not plain, the lesser point first."""
    return [(min(x, y), max(x, y)) for x, y in pairs if not _is_plain(classes, x, y)]


def _part_pairs(bank, u, v):
    """The pairs of parts at the same places of two calls that differ."""
    return [(x, y) for x, y in zip(bank.node(u)[2], bank.node(v)[2]) if x != y]


def _leans(bank, classes, a, b):
    """The pairs that are not plain and that the step of a pair leans on."""
    path = classes.path(a, b)
    if len(path) == 1:
        return _not_plain(classes, _part_pairs(bank, a, b))
    return _not_plain(classes, [(x, y) for x, y, _ in path])


def _pair_step(bank, classes, log, a, b):
    """Adds the step of a pair that is not plain."""
    path = classes.path(a, b)
    if len(path) == 1:
        return _like_step(bank, log, a, b)
    equalities = [_equal(bank, x, y) for x, y, _ in path]
    clause = clause_of([_equal(bank, a, b)] + [-node for node in equalities])
    return log.write("chain", clause, (a, tuple(equalities)))


def _like_step(bank, log, u, v):
    """Adds the step by which two calls are equal because their parts are."""
    literals = [-_equal(bank, x, y) for x, y in _part_pairs(bank, u, v)]
    ends = [-u, v] if bank.sort_of(u) == "truth" else [_equal(bank, u, v)]
    return log.write("like", clause_of(literals + ends), (u, v))


def _strikes(bank, classes, log, pairs):
    """Adds the steps of the pairs and of all that they lean on; the strikes that resolve them away."""
    strikes = []
    for x, y in _in_order(bank, classes, pairs):
        strikes.append((-_equal(bank, x, y), _pair_step(bank, classes, log, x, y)))
    return strikes


def _in_order(bank, classes, pairs):
    """The pairs and all that they lean on, each one before those that it leans on."""
    begun = {}
    done = {}
    waiting = list(pairs)
    while waiting:
        pair = waiting[-1]
        if pair in begun:
            done[waiting.pop()] = True
        else:
            begun[pair] = True
            leans = _leans(bank, classes, pair[0], pair[1])
            # Edges lean on older ones only, so no pair leans on one that is begun and not done.
            waiting.extend([each for each in leans if each not in begun])
    return list(reversed(list(done)))


def _resolved(log, first, strikes):
    """The number of the resolve step; without strikes, of the first step itself."""
    if not strikes:
        return first
    left = {literal: True for literal in log.clause_at(first)}
    for literal, number in strikes:
        del left[literal]
        for each in log.clause_at(number):
            if each != -literal:
                left[each] = True
    return log.write("resolve", clause_of(list(left)), (first, tuple(strikes)))


def _equal(bank, x, y):
    return bank.make("equal", None, (x, y))
