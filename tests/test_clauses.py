"""papersat/clauses.py: points 26 to 30."""

import unittest
from itertools import combinations, product

from papersat.bank import subterms
from papersat.clauses import clause_of, extra_nodes, gather, part_clauses, resolve
from papersat.meaning import clause_holds, meanings
from papersat.reader import parse
from tests.support import call, new_bank, some_model, some_terms


def truth_nodes(bank, nodes):
    return [node for node in nodes if bank.sort_of(node) == "truth"]


def plain_gather(bank, nodes):
    """Gathering by the words of point 29, and the nodes that it makes, in order."""
    found, taken = set(subterms(bank, nodes)), set()
    while found - taken:
        least = min(found - taken)
        taken.add(least)
        found.update(extra_nodes(bank, least))
    return sorted(found)


def propagated(bank, nodes, row):
    """What follows from a row by part clauses with one literal left."""
    row = dict(row)
    clauses = [clause for node in nodes for clause in part_clauses(bank, node)]
    grown = True
    while grown:
        grown = False
        for clause in clauses:
            open_ones = [literal for literal in clause if abs(literal) not in row]
            held = [literal for literal in clause if row.get(abs(literal)) == (literal > 0)]
            if len(open_ones) == 1 and not held:
                row[abs(open_ones[0])] = open_ones[0] > 0
                grown = True
    return row


def is_atom(bank, node):
    op, _, parts = bank.node(node)
    if op == "equal":
        return bank.sort_of(parts[0]) not in ("truth", "whole", "ratio")
    return op in ("most", "call")


class ClauseOfTest(unittest.TestCase):
    def test_clauses(self):
        for literals, wanted in (
            ([], ()), ([5], (5,)), ([-5], (-5,)), ([5, 3], (3, 5)), ([-5, 3], (3, -5)), ([3, -2, 1], (1, -2, 3)),
            ([4, 4], (4,)), ([-4, 2, -4, 2], (2, -4)), ([10 ** 20, -7], (-7, 10 ** 20)),
        ):
            for shape in (list, tuple):
                self.assertEqual(clause_of(shape(literals)), wanted)
                self.assertIs(type(clause_of(shape(literals))), tuple)

    def test_opposite_literals(self):
        for literals in ([1, -1], [-1, 1], [5, 3, -5], [-2, 7, 2, 7], [1, 1, -1]):
            self.assertIsNone(clause_of(literals))

    def test_list_stays(self):
        literals = [5, -3, 5, 1]
        clause_of(literals)
        self.assertEqual(literals, [5, -3, 5, 1])


class ResolveTest(unittest.TestCase):
    def test_results(self):
        for clause, literal, other, wanted in (
            ((1,), 1, (-1,), ()), ((1, 2), 1, (-1, 3), (2, 3)), ((1, 2), 2, (-2,), (1,)), ((-1, 2), -1, (1, 2), (2,)),
            ((1, 2), 1, (-1, 2), (2,)), ((3, -5, 7), -5, (-2, 5, 9), (-2, 3, 7, 9)), ((1, 4), 4, (2, 3, -4), (1, 2, 3)),
        ):
            self.assertEqual(resolve(clause, literal, other), wanted)

    def test_none(self):
        for clause, literal, other in (
            ((1, 2), 3, (-3,)), ((1, 2), -1, (1,)), ((1, 2), 1, (1, 3)), ((1, 2), 1, (3,)), ((), 1, (-1,)), ((1,), 1, ()),
            ((1, 2), 1, (-1, -2)), ((1, -2, 3), 1, (-1, 2)), ((1, 5), 1, (-1, 2, -5)), ((1,), -1, (-1,)),
        ):
            self.assertIsNone(resolve(clause, literal, other))

    def test_by_sets(self):
        literals = (1, -1, 2, -2, 3, -3)
        clauses = {clause_of(chosen) for count in range(4) for chosen in combinations(literals, count)} - {None}
        for clause, literal, other in product(sorted(clauses), literals, sorted(clauses)):
            union = (set(clause) - {literal}) | (set(other) - {-literal})
            fits = literal in clause and -literal in other and not any(-each in union for each in union)
            wanted = tuple(sorted(union, key=abs)) if fits else None
            self.assertEqual(resolve(clause, literal, other), wanted)


class PartClausesTest(unittest.TestCase):
    def setUp(self):
        self.bank = new_bank()

    def check(self, text, extras, lines):
        """Lines name the node as n, its parts as a, b, c, d, and the extra nodes as e0, e1, .."""
        bank = self.bank
        n = parse(bank, text)
        parts = bank.node(n)[2]
        names = {"n": n, **dict(zip("abcd", parts))}
        self.assertEqual([bank.seek(*self.named(extra, names)) for extra in extras], [0] * len(extras), text)
        without = [line for line in lines if "e" not in " ".join(line)]
        self.assertEqual(part_clauses(bank, n), [self.clause(line, names) for line in without], text)
        count = len(bank)
        made = extra_nodes(bank, n)
        self.assertEqual(len(bank), count + len(extras))
        for k, extra in enumerate(extras):
            names[f"e{k}"] = bank.seek(*self.named(extra, names))
            self.assertEqual(names[f"e{k}"], count + k + 1)
        self.assertEqual(made, sorted({names[f"e{k}"] for k in range(len(extras))}))
        self.assertEqual(part_clauses(bank, n), [self.clause(line, names) for line in lines], text)
        self.assertEqual(extra_nodes(bank, n), made)
        self.assertEqual(len(bank), count + len(extras))

    def named(self, extra, names):
        op, one, other = extra
        return (op, None, (names[one], names[other]))

    def clause(self, line, names):
        return clause_of([-names[word[1:]] if word[0] == "-" else names[word] for word in line])

    def lines(self, text):
        return [line.split() for line in text.split(";")] if text else []

    def test_truth(self):
        for text, lines in (
            ("true", "n"), ("false", "-n"), ("(not p)", "-n -a;n a"), ("(and)", "n"), ("(and p)", "-n a;n -a"),
            ("(and p q r)", "-n a;-n b;-n c;n -a -b -c"), ("(or)", "-n"), ("(or p)", "n -a;-n a"),
            ("(or r q p)", "n -a;n -b;n -c;-n a b c"), ("(imply p q)", "n a;n -b;-n -a b"),
            ("(if p q r)", "-n -a b;n -a -b;-n a c;n a -c"), ("(= p q)", "-n -a b;-n a -b;n a b;n -a -b"),
        ):
            self.check(text, [], self.lines(lines))

    def test_no_lines(self):
        for text in ("p", "x", "s", "a", "(is_old a)", "(f x)", "5", "1/2", "(+ x 5)", "(+ s t)", "(* 1/2 s)", "(<= x y)", "(<= s t)", "(= a b)"):
            self.check(text, [], [])

    def test_if_of_other_sorts(self):
        for text in ("(if p x y)", "(if q s t)", "(if r a b)", "(if p home (at a))"):
            self.check(text, [("equal", "n", "b"), ("equal", "n", "c")], self.lines("-a e0;a e1"))

    def test_equal_numbers(self):
        for text in ("(= x y)", "(= s t)", "(= x 5)", "(= 1/2 s)"):
            self.check(text, [("most", "a", "b"), ("most", "b", "a")], self.lines("-n e0;-n e1;n -e0 -e1"))

    def test_distinct(self):
        pairs = [("equal", "a", "b"), ("equal", "a", "c"), ("equal", "b", "c")]
        for text in ("(distinct x y z)", "(distinct s t u)", "(distinct a b c)", "(distinct p q r)"):
            self.check(text, pairs, self.lines("-n -e0;-n -e1;-n -e2;n e0 e1 e2"))
        self.check("(distinct b (h a b))", [("equal", "a", "b")], self.lines("-n -e0;n e0"))
        four = [("equal", one, other) for one, other in combinations("abcd", 2)]
        lines = [["-n", f"-e{k}"] for k in range(6)] + [["n", *[f"e{k}" for k in range(6)]]]
        self.check("(distinct 1 2 3 4)", four, lines)

    def test_less(self):
        for text in ("(< x y)", "(< t s)", "(< x x)"):
            self.check(text, [("most", "b", "a")], self.lines("-n -e0;n e0"))

    def test_repeated_parts(self):
        self.check("(and p p)", [], self.lines("-n a;n -a"))
        self.check("(and p q p)", [], self.lines("-n a;-n b;n -a -b"))
        self.check("(or p p)", [], self.lines("n -a;-n a"))
        self.check("(imply p p)", [], self.lines("n a;n -a"))
        self.check("(if p q q)", [], self.lines("-n -a b;n -a -b;-n a b;n a -b"))
        self.check("(if p p q)", [], self.lines("n -a;-n a c;n a -c"))
        self.check("(if p q p)", [], self.lines("-n -a b;n -a -b;-n a"))
        self.check("(if p p p)", [], self.lines("n -a;-n a"))
        self.check("(= p p)", [], self.lines("n a;n -a"))
        self.check("(if p x x)", [("equal", "n", "b")], self.lines("-a e0;a e0"))
        self.check("(= x x)", [("most", "a", "a")], self.lines("-n e0;n -e0"))
        self.check("(= s s)", [("most", "a", "a")], self.lines("-n e0;n -e0"))
        self.check("(distinct a a)", [("equal", "a", "a")], self.lines("-n -e0;n e0"))
        self.check("(distinct b b b)", [("equal", "a", "b")], self.lines("-n -e0;n e0"))

    def test_repeated_parts_of_distinct(self):
        n = parse(self.bank, "(distinct x y x)")
        x, y, _ = self.bank.node(n)[2]
        pair, same = extra_nodes(self.bank, n)
        self.assertEqual(self.bank.node(pair), ("equal", None, (x, y)))
        self.assertEqual(self.bank.node(same), ("equal", None, (x, x)))
        self.assertEqual(part_clauses(self.bank, n), [clause_of(c) for c in ((-n, -pair), (-n, -same), (n, pair, same))])

    def test_opposite_parts(self):
        n = parse(self.bank, "(and p (not p))")
        p, other = self.bank.node(n)[2]
        self.assertEqual(part_clauses(self.bank, n), [(p, -n), (other, -n), (-p, -other, n)])
        self.assertEqual(part_clauses(self.bank, other), [(-p, -other), (p, other)])

    def test_extra_nodes_that_are_there_in_part(self):
        bank = self.bank
        n = parse(bank, "(distinct x y z)")
        x, y, z = bank.node(n)[2]
        second = bank.make("equal", None, [z, x])
        self.assertEqual(part_clauses(bank, n), [(-n, -second)])
        third = bank.make("equal", None, [y, z])
        self.assertEqual(part_clauses(bank, n), [(-n, -second), (-n, -third)])
        first = bank.make("equal", None, [x, y])
        self.assertEqual(part_clauses(bank, n), [(-n, -first), (-n, -second), (-n, -third), (n, second, third, first)])
        self.assertEqual(extra_nodes(bank, n), [second, third, first])
        n = parse(bank, "(= s t)")
        s, t = bank.node(n)[2]
        downward = bank.make("most", None, [t, s])
        self.assertEqual(part_clauses(bank, n), [(-n, downward)])
        n = parse(bank, "(if p a b)")
        p, _, b = bank.node(n)[2]
        bank.make("most", None, [s, t])
        second = bank.make("equal", None, [b, n])
        self.assertEqual(part_clauses(bank, n), [(p, second)])

    def test_extra_nodes_are_older_than_the_node(self):
        bank = self.bank
        most = parse(bank, "(<= y x)")
        less = parse(bank, "(< x y)")
        count = len(bank)
        self.assertEqual(extra_nodes(bank, less), [most])
        self.assertEqual(part_clauses(bank, less), [(-most, -less), (most, less)])
        self.assertEqual(len(bank), count)

    def test_kinds_of_results(self):
        n = parse(self.bank, "(imply p q)")
        found = part_clauses(self.bank, n)
        self.assertIs(type(found), list)
        self.assertTrue(all(type(clause) is tuple for clause in found))
        found.clear()
        self.assertEqual(len(part_clauses(self.bank, n)), 3)
        self.assertEqual(extra_nodes(self.bank, n), [])
        self.assertIs(type(extra_nodes(self.bank, n)), list)


class GatherTest(unittest.TestCase):
    def test_example(self):
        bank = new_bank()
        node = parse(bank, "(and (< x y) (= s (if p t s)))")
        count = len(bank)
        names = "x y s p t".split()
        x, y, s, p, t = (call(bank, name) for name in names)
        choice = bank.seek("if", None, [p, t, s])
        given = subterms(bank, [node])
        found = gather(bank, [node])
        made = [(bank.node(number)[0], bank.node(number)[2]) for number in range(count + 1, len(bank) + 1)]
        # The equal node of s and the choice is there already.
        self.assertEqual(made, [
            ("most", (y, x)), ("equal", (t, choice)), ("most", (s, choice)), ("most", (choice, s)),
            ("most", (t, choice)), ("most", (choice, t)),
        ])
        self.assertEqual(found, given + list(range(count + 1, len(bank) + 1)))

    def test_least_first(self):
        bank = new_bank()
        equal = parse(bank, "(= x y)")
        distinct = parse(bank, "(distinct s t)")
        less = parse(bank, "(< z x)")
        count = len(bank)
        found = gather(bank, [less, distinct, equal])
        made = [(bank.node(number)[0], bank.node(number)[2]) for number in range(count + 1, len(bank) + 1)]
        x, y, z, s, t = (call(bank, name) for name in "xyzst")
        self.assertEqual(made, [
            ("most", (x, y)), ("most", (y, x)), ("equal", (s, t)), ("most", (x, z)), ("most", (s, t)), ("most", (t, s)),
        ])
        self.assertEqual(found, sorted([x, y, equal, s, t, distinct, z, less, *range(count + 1, len(bank) + 1)]))

    def test_only_what_belongs_to_the_nodes(self):
        bank = new_bank()
        parse(bank, "(distinct x y)")
        self.assertEqual(gather(bank, [1]), [1])
        self.assertEqual(gather(bank, []), [])
        self.assertEqual(gather(bank, ()), [])
        x = call(bank, "x")
        self.assertEqual(gather(bank, (x, x)), [x])
        self.assertEqual(bank.seek("equal", None, [x, call(bank, "y")]), 0)

    def test_nodes_that_were_there_already(self):
        bank = new_bank()
        most = parse(bank, "(<= y x)")
        less = parse(bank, "(< x y)")
        count = len(bank)
        self.assertEqual(gather(bank, [less]), [call(bank, "y"), call(bank, "x"), most, less])
        self.assertEqual(len(bank), count)

    def test_by_the_words_of_the_point(self):
        for seed in range(10):
            one, other = some_terms(seed, 70), some_terms(seed, 70)
            nodes = [70, 31, 64, 31]
            subterm_count = len(subterms(one, nodes))
            found = gather(one, nodes)
            self.assertEqual(nodes, [70, 31, 64, 31])
            self.assertEqual(found, plain_gather(other, nodes))
            self.assertEqual(list(one), list(other))
            self.assertLessEqual(len(found), 2 * subterm_count + 2 * subterm_count ** 2)
            count = len(one)
            self.assertEqual(gather(one, found), found)
            self.assertEqual(gather(one, tuple(nodes)), found)
            self.assertEqual(len(one), count)

    def test_list_is_new(self):
        bank = new_bank()
        nodes = [parse(bank, "(not p)")]
        gather(bank, nodes).append(99)
        self.assertEqual(gather(bank, nodes), [call(bank, "p"), nodes[0]])


class ValidTest(unittest.TestCase):
    def test_part_clauses_hold_under_every_model(self):
        for seed in range(6):
            bank = some_terms(seed, 100)
            nodes = gather(bank, list(range(1, len(bank) + 1)))
            for model_seed in range(5):
                model = some_model(1000 * seed + model_seed, bank.signature)
                found = meanings(bank, model, nodes)
                for node in nodes:
                    for clause in part_clauses(bank, node):
                        self.assertTrue(any(found[abs(each)] == (each > 0) for each in clause))
                self.assertTrue(clause_holds(bank, model, part_clauses(bank, 1)[0]))

    def test_atoms_give_all_the_others(self):
        for seed in range(6):
            bank = some_terms(seed, 100)
            nodes = gather(bank, [100, 99, 98, 97])
            truths = truth_nodes(bank, nodes)
            for model_seed in range(4):
                model = some_model(77 * seed + model_seed, bank.signature)
                found = meanings(bank, model, truths)
                atoms = {node: found[node] for node in truths if is_atom(bank, node)}
                row = propagated(bank, nodes, atoms)
                self.assertEqual({node: row.get(node) for node in truths}, {node: found[node] for node in truths})

    def test_clauses_are_clauses_over_gathered_nodes(self):
        for seed in range(6):
            bank = some_terms(seed, 100)
            nodes = gather(bank, [100, 95])
            for node in nodes:
                clauses = part_clauses(bank, node)
                self.assertEqual(len(set(clauses)), len(clauses))
                for clause in clauses:
                    self.assertEqual(clause_of(clause), clause)
                    self.assertTrue({abs(each) for each in clause} <= set(truth_nodes(bank, nodes)))
