"""Learning: clauses that follow from a clash, with the resolution steps by which they follow."""

from papersat.clauses import clause_of


def learn(trail, watching, clause, source):
    """The learned clause, the level to go back to, and the details of its step."""
    deepest = max([trail.level_of(literal) for literal in clause])
    held = {literal: True for literal in clause}
    strikes = []
    left = _count_of_level(trail, held, deepest)
    for literal in reversed(trail.literals()):
        if left < 2:
            break
        if -literal in held:
            # All literals that are not struck yet and stand here have the greatest level.
            added = _strike(trail, watching, held, -literal, strikes)
            left += _count_of_level(trail, added, deepest) - 1
    ground = trail.sizes()[0]
    _strike_forced(trail, watching, held, trail.literals()[:ground], strikes)
    levels = [trail.level_of(literal) for literal in held]
    level = max([each for each in levels if each != deepest], default=0)
    return (clause_of(list(held)), level, (source, tuple(strikes)))


def final_clause(trail, watching, literal):
    """The final clause of a false literal whose negation is forced, and its details."""
    reason = trail.reason_of(literal)
    held = {each: True for each in watching.clause(reason)}
    strikes = []
    earlier = trail.literals()[:trail.place_of(literal)]
    _strike_forced(trail, watching, held, earlier, strikes)
    return (clause_of(list(held)), (watching.source(reason), tuple(strikes)))


def empty_details(trail, watching, clause, source):
    """The details of a step for the empty clause, from a false clause whose literals have level 0."""
    held = {literal: True for literal in clause}
    strikes = []
    _strike_forced(trail, watching, held, trail.literals(), strikes)
    return (source, tuple(strikes))


def _count_of_level(trail, literals, level):
    return len([literal for literal in literals if trail.level_of(literal) == level])


def _strike_forced(trail, watching, held, literals, strikes):
    """Strikes the held negations of the forced ones of these literals, the last ones first."""
    for literal in reversed(literals):
        if -literal in held and trail.reason_of(literal) is not None:
            _strike(trail, watching, held, -literal, strikes)


def _strike(trail, watching, held, literal, strikes):
    """Replaces a held literal by the others of the clause of its reason; the list of the new ones."""
    reason = trail.reason_of(literal)
    added = [each for each in watching.clause(reason) if each != -literal and each not in held]
    del held[literal]
    for each in added:
        held[each] = True
    strikes.append((literal, watching.source(reason)))
    return added
