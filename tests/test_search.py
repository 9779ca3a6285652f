"""papersat/search.py: points 44 to 48."""

import random
import unittest
from itertools import product

from papersat.choosing import Chooser
from papersat.clauses import clause_of
from papersat.errors import BadLiteral, PaperError
from papersat.listener import Forbidding, Listener
from papersat.log import Log
from papersat.search import Search
from papersat.trail import Trail
from tests.goodness import resolves


def some_clause(chance, nodes, sizes):
    size = min(len(nodes), chance.choice(sizes))
    return clause_of([node * chance.choice((1, -1)) for node in chance.sample(nodes, size)])


def rows_over(nodes):
    """All rows of literals over the nodes, as sets."""
    return [{node * sign for node, sign in zip(nodes, signs)} for signs in product((1, -1), repeat=len(nodes))]


def greater(one, other):
    """True if the sizes `other` are greater than the sizes `one`, a missing level counting as 0."""
    count = max(len(one), len(other))
    return one + [0] * (count - len(one)) < other + [0] * (count - len(other))


class Noting(Forbidding):
    """A forbidding listener that notes what it is asked and told."""

    def __init__(self, log, numbers):
        super().__init__(log, numbers)
        self.notes = []
        self.heard = []

    def told(self, literal):
        assert -literal not in self.heard and literal not in self.heard
        self.heard.append(literal)
        self.notes.append("told")
        super().told(literal)

    def fault(self):
        found = super().fault()
        self.notes.append(("fault", found))
        return found

    def back(self, count):
        del self.heard[count:]
        self.notes.append(("back", count))
        super().back(count)

    def told_count(self):
        return super().told_count()


class Problem:
    """Some clauses and some forbidden ones over up to six nodes."""

    def __init__(self, seed, listener=Forbidding):
        self.chance = random.Random(seed)
        self.nodes = self.chance.sample(range(1, 30), self.chance.randrange(0, 7))
        self.log = Log()
        self.numbers, self.faults = [], []
        sizes = self.chance.choice(((2, 3, 3), (3, 3, 4), (0, 1, 2, 3), (1, 2, 2)))
        for _ in range(self.chance.randrange(1 + 5 * len(self.nodes))):
            number = self.log.write("given", some_clause(self.chance, self.nodes, sizes), None)
            self.chance.choice((self.numbers, self.numbers, self.faults)).append(number)
        if not self.nodes and self.chance.random() < 0.5:
            self.faults.append(self.log.write("given", (), None))
        self.listener = listener(self.log, self.faults)
        self.search = Search(self.log, self.nodes, self.numbers, self.listener)

    def assumptions(self):
        chosen = self.chance.sample(self.nodes, self.chance.randrange(len(self.nodes) + 1))
        literals = [node * self.chance.choice((1, -1)) for node in chosen]
        if literals and self.chance.random() < 0.5:
            literals += self.chance.choices(literals, k=3)
        return literals

    def fitting_rows(self, assumptions):
        clauses = [set(self.log.clause_at(number)) for number in self.numbers + self.faults]
        return [row for row in rows_over(self.nodes) if row >= set(assumptions) and all(row & each for each in clauses)]


class SearchTest(unittest.TestCase):
    def check_answer(self, problem, assumptions, answer):
        """The answer against all rows, and against point 44."""
        self.assertIs(type(answer), tuple)
        kind, what = answer
        fitting = problem.fitting_rows(assumptions)
        self.assertEqual(kind, "yes" if fitting else "no")
        if kind == "yes":
            self.assertIs(type(what), list)
            self.assertEqual([abs(literal) for literal in what], sorted(problem.nodes))
            self.assertIn(set(what), fitting)
            self.assertIsNone(problem.listener.fault())
            self.assertEqual(problem.listener.told_count(), len(problem.nodes))
        else:
            self.assertLessEqual(set(problem.log.clause_at(what)), {-literal for literal in assumptions})
            if problem.log.step(what)[0] == "given":
                self.assertIn(what, problem.numbers + problem.faults)

    def check_steps(self, problem, before, learned, answer):
        """The numbers and kinds of the steps that asking added."""
        steps = problem.log.all_steps()
        for number in range(before, len(steps)):
            self.assertEqual(steps[number][0], "resolve")
            self.assertEqual(clause_of(steps[number][1]), steps[number][1])
            self.assertTrue(resolves(steps, number))
        now = problem.search.learned()
        self.assertEqual(now[:len(learned)], learned)
        fresh = now[len(learned):]
        others = [number for number in range(before, len(steps)) if number not in fresh]
        self.assertEqual(fresh, sorted(fresh))
        self.assertTrue(all(before <= number < len(steps) for number in fresh))
        self.assertIn(others, [[], [answer[1]]] if answer[0] == "no" else [[]])
        clauses = [set(problem.log.clause_at(number)) for number in problem.numbers + problem.faults]
        fitting = [row for row in rows_over(problem.nodes) if all(row & each for each in clauses)]
        for number in fresh:
            # What was learned follows from the clauses and the faults alone, not from assumptions.
            self.assertTrue(all(row & set(steps[number][1]) for row in fitting))

    def check_record(self, record, restarts, answer, count):
        self.assertIs(type(record), list)
        self.assertLessEqual(record.count([]), restarts)
        for one, other in zip(record, record[1:]):
            self.assertTrue(not one or not other or greater(one, other), (one, other))
            self.assertFalse(not one and not other)
        if answer[0] == "yes":
            self.assertEqual(sum(record[-1]), count)
        if record:
            self.assertNotEqual(record[-1], [])
        for sizes in record:
            self.assertTrue(all(size >= 1 for size in sizes[1:]))
            self.assertTrue(all(type(size) is int for size in sizes))

    def test_against_all_rows(self):
        counts = {"yes": 0, "no": 0, "learned": 0, "given": 0}
        for seed in range(1500):
            problem = Problem(seed)
            for _ in range(4):
                assumptions = problem.assumptions()
                passed = tuple(assumptions) if problem.chance.random() < 0.5 else list(assumptions)
                restarts, record = problem.chance.choice((0, 12)), problem.chance.random() < 0.5
                before, learned = len(problem.log), problem.search.learned()
                answer = problem.search.ask(passed, restarts=restarts, record=record)
                self.assertEqual(list(passed), assumptions)
                self.check_answer(problem, assumptions, answer)
                self.check_steps(problem, before, learned, answer)
                if record:
                    self.check_record(problem.search.sizes_record(), restarts, answer, len(problem.nodes))
                else:
                    self.assertEqual(problem.search.sizes_record(), [])
                counts[answer[0]] += 1
                counts["given"] += answer[0] == "no" and problem.log.step(answer[1])[0] == "given"
            counts["learned"] += len(problem.search.learned())
        for key in counts:
            self.assertGreater(counts[key], 100, key)

    def test_clauses_alone(self):
        log = Log()
        numbers = [log.write("given", clause, None) for clause in ((1, 2), (-1, 2), (1, -2))]
        search = Search(log, [1, 2], numbers, Listener())
        self.assertEqual(search.ask([]), ("yes", [1, 2]))
        self.assertEqual(search.ask(()), ("yes", [1, 2]))
        numbers.append(log.write("given", (-1, -2), None))
        self.assertEqual(search.ask([])[0], "yes")
        search = Search(log, (2, 1, 2), tuple(numbers), Listener())
        kind, number = search.ask([])
        self.assertEqual((kind, log.clause_at(number)), ("no", ()))
        self.assertEqual(log.step(number)[0], "resolve")

    def test_nothing_at_all(self):
        search = Search(Log(), [], [], Listener())
        self.assertEqual(search.ask([]), ("yes", []))
        self.assertEqual(search.ask([], record=True), ("yes", []))
        self.assertEqual(search.sizes_record(), [[0]])
        self.assertEqual(search.learned(), [])

    def test_empty_clauses(self):
        log = Log()
        empty = log.write("given", (), None)
        for search in (Search(log, [1], [empty], Listener()), Search(log, [1], [], Forbidding(log, [empty]))):
            for assumptions in ([], [1], [-1, -1]):
                kind, number = search.ask(assumptions)
                self.assertEqual((kind, log.clause_at(number)), ("no", ()))
            self.assertEqual(search.learned(), [])

    def test_assumptions_that_clauses_refuse(self):
        log = Log()
        numbers = [log.write("given", clause, None) for clause in ((-1, -2), (-3,))]
        search = Search(log, [1, 2, 3, 4], numbers, Listener())
        kind, number = search.ask([4, 1, 2, 1])
        self.assertEqual((kind, log.clause_at(number)), ("no", (-1, -2)))
        kind, number = search.ask([4, 3])
        self.assertEqual((kind, log.clause_at(number)), ("no", (-3,)))
        self.assertEqual(search.ask([1, 4, 4])[1], [1, -2, -3, 4])
        self.assertEqual(search.learned(), [])

    def test_defaults(self):
        log = Log()
        search = Search(log, [1], [], Listener())
        search.ask([1], record=True)
        self.assertEqual(search.sizes_record(), [[0], [0, 1]])
        search.ask([1])
        self.assertEqual(search.sizes_record(), [])

    def test_other_nodes_change_nothing(self):
        for seed in range(60):
            problem = Problem(seed, Noting)
            problem.search.ask(problem.assumptions(), record=True)
            before = (problem.log.all_steps(), problem.search.learned(), problem.search.sizes_record())
            notes, heard = list(problem.listener.notes), list(problem.listener.heard)
            good = problem.assumptions()
            for wrong, first in (([99], 99), (good + [-98, 97], -98), ([0] + good, 0), ([-99] + good + [98], -99)):
                for record in (False, True):
                    with self.assertRaises(PaperError) as caught:
                        problem.search.ask(wrong, record=record)
                    self.assertIs(type(caught.exception), BadLiteral)
                    self.assertEqual(caught.exception.literal, first)
            after = (problem.log.all_steps(), problem.search.learned(), problem.search.sizes_record())
            self.assertEqual(after, before)
            self.assertEqual((problem.listener.notes, problem.listener.heard), (notes, heard))
            self.check_answer(problem, good, problem.search.ask(good))

    def test_what_the_listener_hears(self):
        for seed in range(300):
            problem = Problem(seed, Noting)
            for _ in range(3):
                problem.listener.notes.clear()
                answer = problem.search.ask(problem.assumptions(), record=True)
                notes = problem.listener.notes
                self.assertIn(("back", 0), notes)
                self.assertEqual(notes[0], ("back", 0))
                if answer[0] == "yes":
                    self.assertEqual(sorted(problem.listener.heard, key=abs), answer[1])
                    self.assertEqual([note for note in notes if note != "told"][-1], ("fault", None))
                # The record has one entry for each time that there was no fault, besides the restarts.
                calm = len([note for note in notes if note == ("fault", None)])
                record = problem.search.sizes_record()
                self.assertEqual(len(record) - record.count([]), calm)

    def test_lists_are_new(self):
        problem = Problem(5)
        problem.search.ask([], record=True)
        before = repr((problem.search.learned(), problem.search.sizes_record()))
        problem.search.learned().append(7)
        problem.search.sizes_record().append([])
        problem.search.sizes_record()[0].append(7)
        self.assertEqual(repr((problem.search.learned(), problem.search.sizes_record())), before)
        nodes, numbers = [1, 2], [0]
        log = Log()
        log.write("given", (1, 2), None)
        log.write("given", (-1,), None)
        search = Search(log, nodes, numbers, Listener())
        nodes.append(3)
        numbers.append(1)
        self.assertEqual([len(search.ask([1])[1]), len(nodes), len(numbers)], [2, 3, 2])


class HardTest(unittest.TestCase):
    """Searches that restart and forget."""

    def holes(self, count):
        """One more pigeon than holes: the log, the nodes, the clauses."""
        log = Log()
        nodes = {(p, h): 1 + p * count + h for p in range(count + 1) for h in range(count)}
        numbers = [log.write("given", tuple(nodes[p, h] for h in range(count)), None) for p in range(count + 1)]
        for h in range(count):
            for p in range(count + 1):
                for q in range(p):
                    numbers.append(log.write("given", (-nodes[q, h], -nodes[p, h]), None))
        return log, sorted(nodes.values()), numbers

    def test_holes(self):
        for restarts in (0, 1, 2, 12):
            log, nodes, numbers = self.holes(6)
            search = Search(log, nodes, numbers, Listener())
            kind, number = search.ask([], restarts=restarts, record=True)
            self.assertEqual((kind, log.clause_at(number)), ("no", ()))
            record = search.sizes_record()
            self.assertEqual(record.count([]) > 0, restarts > 0)
            self.assertLessEqual(record.count([]), restarts)
            for one, other in zip(record, record[1:]):
                self.assertTrue(not one or not other or greater(one, other))
            steps = log.all_steps()
            self.assertTrue(all(resolves(steps, n) for n in range(len(numbers), len(steps))))
            self.assertEqual(len(steps), len(numbers) + len(search.learned()) + 1)

    def test_one_pigeon_too_many_is_assumed(self):
        log, nodes, numbers = self.holes(5)
        search = Search(log, nodes, numbers[1:], Listener())
        self.assertEqual(search.ask([])[0], "yes")
        assumed = [-node for node in nodes[5:9]]
        kind, number = search.ask(assumed + [-node for node in nodes[:5]])
        self.assertEqual(kind, "yes")
        kind, number = search.ask([nodes[0]])
        self.assertEqual(kind, "no")
        self.assertEqual(log.clause_at(number), (-nodes[0],))
        self.assertEqual(search.ask([])[0], "yes")

    def test_many_nodes(self):
        kinds = []
        for seed in range(12):
            chance = random.Random(seed)
            log = Log()
            nodes = list(range(1, 71))
            numbers = [log.write("given", some_clause(chance, nodes, (3,)), None) for _ in range(300)]
            search = Search(log, nodes, numbers, Listener())
            for _ in range(2):
                kind, what = search.ask([chance.choice(nodes)])
                kinds.append(kind)
                if kind == "yes":
                    self.assertTrue(all(set(log.clause_at(number)) & set(what) for number in numbers))
                steps = log.all_steps()
            self.assertTrue(all(resolves(steps, number) for number in range(300, len(steps))))
        self.assertEqual(sorted(set(kinds)), ["no", "yes"])


class ChooserTest(unittest.TestCase):
    def test_pick(self):
        chooser = Chooser([1, 2, 3], [(-2, 3), (-2, -3)])
        trail = Trail([1, 2, 3])
        self.assertEqual(chooser.pick(trail), 1)
        chooser.credit([2])
        self.assertEqual(chooser.pick(trail), -2)
        chooser.remember([2])
        self.assertEqual(chooser.pick(trail), 2)
        trail.choose(-2)
        self.assertEqual(chooser.pick(trail), 1)
        chooser.credit([3])
        self.assertEqual(chooser.pick(trail), 3)
        for literal in (1, -3):
            trail.choose(literal)
        self.assertIsNone(chooser.pick(trail))

    def test_later_credit_counts_more(self):
        chooser = Chooser([1, 2], [])
        trail = Trail([1, 2])
        for _ in range(2000):
            chooser.credit([1])
        for _ in range(60):
            chooser.credit([2])
        self.assertEqual(chooser.pick(trail), 2)


if __name__ == "__main__":
    unittest.main()
