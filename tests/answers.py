"""Holding an answer against the meanings and the rules, and plain versions of what solving decides."""

import random
from fractions import Fraction

from papersat.checker import check, first_bad
from papersat.meaning import meanings
from papersat.models import Model
from papersat.reader import parse
from papersat.solver import solve
from papersat.trimming import trim
from tests.goodness import is_good
from tests.sentences import knotted_sentences
from tests.support import new_bank


def hold(test, bank, sentences, answer):
    """Fails unless the answer is one for these sentences by points 67, 71 and 72; gives its side."""
    asked = list(dict.fromkeys(sentences))
    test.assertEqual(answer.sentences, asked)
    test.assertIs(type(answer.sentences), list)
    test.assertIs(type(answer.yes), bool)
    test.assertIs(bool(answer), answer.yes)
    nodes = list(bank)
    if answer.yes:
        test.assertIsNone(answer.paper)
        test.assertIsNone(answer.core)
        test.assertIs(type(answer.model), Model)
        test.assertIs(answer.model.signature, bank.signature)
        found = meanings(bank, answer.model, asked)
        test.assertTrue(all(found[sentence] is True for sentence in asked))
    else:
        test.assertIsNone(answer.model)
        steps = answer.paper
        test.assertTrue(all(is_good(bank, steps, number) for number in range(len(steps))))
        test.assertIsNone(first_bad(bank, steps))
        test.assertIs(check(bank, asked, steps), True)
        test.assertEqual(trim(steps), steps)
        test.assertEqual(answer.core, [sentence for sentence in asked if -sentence in steps[-1][1]])
        test.assertEqual({-sentence for sentence in answer.core}, set(steps[-1][1]))
        test.assertGreater(len(answer.core), 0)
    test.assertEqual(list(bank), nodes)
    return answer.yes


def refused_sentences(test, count, least):
    """For some seeds a bank and a no over it, as far as the sentences of the seed have one; at least so many."""
    found = 0
    for seed in range(count):
        chance = random.Random(seed)
        bank = new_bank()
        texts = knotted_sentences(chance, chance.choice((14, 18, 22)), chance.choice((2, 2, 3)))
        answer = solve(bank, [parse(bank, text) for text in texts])
        if not answer.yes:
            found += 1
            yield chance, bank, answer
    test.assertGreaterEqual(found, least)


def shortest_way(limits, start, end):
    """The greatest x_start minus x_end under limits that can hold together, or None if it is unbounded."""
    lengths = {start: 0}
    for _ in range(len(limits) + 2):
        for i, j, k in limits:
            if i in lengths and lengths[i] + k < lengths.get(j, lengths[i] + k + 1):
                lengths[j] = lengths[i] + k
    return lengths.get(end)


def fractions_exist(bounds, count):
    """True if fractions fit bounds: (coefficients, constant, strict) says that the sum is below zero, or at most zero."""
    rows = [([Fraction(each) for each in coefficients], Fraction(constant), strict) for coefficients, constant, strict in bounds]
    for place in range(count):
        below = [row for row in rows if row[0][place] > 0]
        above = [row for row in rows if row[0][place] < 0]
        rows = [row for row in rows if row[0][place] == 0]
        for up, up_constant, up_strict in below:
            for down, down_constant, down_strict in above:
                one, other = -down[place], up[place]
                sums = [one * x + other * y for x, y in zip(up, down)]
                rows.append((sums, one * up_constant + other * down_constant, up_strict or down_strict))
    return all(constant < 0 or constant == 0 and not strict for _, constant, strict in rows)
