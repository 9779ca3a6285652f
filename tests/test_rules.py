"""papersat/rules.py: points 32 and 66."""

import random
import unittest

from papersat.meeting import question
from papersat.joined import Joined
from papersat.log import Log
from papersat.meaning import clause_holds
from papersat.reader import parse
from papersat.rules import is_good_step
from papersat.search import Search
from tests.goodness import is_good
from tests.sentences import knotted_sentences
from tests.support import new_bank, some_model

SHAPES = (
    None, 0, 1, -1, 10 ** 30, (), (0,), (1, 1), (0, ()), ((), 0), ((), ()), (0, 0, 0), (1, (1,)), (1, (2, 3)), ((1, 1),),
    ((1, 1), (1, 1)), (0, ((1, 0),)), (0, ((1, 0, 0),)), (0, ((1,),)), (0, (1, 0)), (0, (None,)), (None, None), (None,),
    (0, None), (None, ()), (((((((((((1,),),),),),),),),),),), ((None, (None, 1)), 2), (0, ((None, 0),)), (0, ((1, None),)),
    (0, (((1,), 0),)), (0, ((1, (0,)),)), ((0, 0), ()), (0, ((1, 0),), ()), (3, ((1, 1),)), (-1, ()), (0, ((1, -1),)),
)

KINDS = ("part", "same", "chain", "like", "sum", "resolve")


class Case(unittest.TestCase):
    def setUp(self):
        self.bank = new_bank()

    def parse(self, text):
        return parse(self.bank, text)

    def nodes(self, *texts):
        return [self.parse(text) for text in texts]

    def clause(self, *literals):
        return tuple(sorted(literals, key=abs))

    def is_good(self, kind, clause, details, before=()):
        """Whether a step is good behind some clauses; no node may be made."""
        steps = [("given", each, None) for each in before] + [(kind, clause, details)]
        nodes = list(self.bank)
        answer = is_good_step(self.bank, steps, len(before))
        self.assertIs(type(answer), bool)
        self.assertIs(answer, is_good(self.bank, steps, len(before)))
        self.assertEqual(list(self.bank), nodes)
        return answer

    def good(self, *step, before=()):
        self.assertIs(self.is_good(*step, before=before), True, step)

    def bad(self, *step, before=()):
        self.assertIs(self.is_good(*step, before=before), False, step)

    def refuse_shapes(self, kind, clause, but=()):
        for details in SHAPES:
            if details not in but:
                self.bad(kind, clause, details, before=(clause,))


class ClauseTest(Case):
    def test_what_is_no_clause(self):
        p, q, both, x = self.nodes("p", "q", "(and p q)", "x")
        self.good("part", self.clause(-both, p), both)
        for clause in (
            (p, -both, q), (-both, p), (both, -both, p), (p, p, -both), (p, p), (0, p, -both), (p, -both, 10 ** 20), (0,),
            (p, -both, len(self.bank) + 1), (p, -len(self.bank) - 1), (p, x, -both), (-10 ** 40,),
        ):
            self.bad("part", clause, both)

    def test_resolve_steps_need_a_clause_too(self):
        p, q, x = self.nodes("p", "q", "x")
        self.good("resolve", (p, q), (0, ()), before=((p, q),))
        for clause in ((q, p), (p, p, q), (p, x), (p, -p), (0, p), (p, 1000)):
            self.bad("resolve", clause, (0, ()), before=(clause,))

    def test_the_clauses_that_are_named_may_be_anything(self):
        p, q, x = self.nodes("p", "q", "x")
        self.good("resolve", (p, q), (0, ()), before=((q, p, p),))
        self.good("resolve", (p,), (0, ((x, 1),)), before=((p, x), (0, -x, p)[1:]))
        self.good("resolve", (p,), (0, ((q, 1),)), before=((p, q), (-q, -q)))
        self.good("resolve", (p, q), (0, ((q, 1),)), before=((p, q), (q, -q)))

    def test_kinds_that_do_not_exist(self):
        p = self.parse("p")
        self.good("part", (1,), 1)
        for kind in ("given", "", "Part", "parts", "same ", "step", "true", "sum resolve", "chain\n", "0", ":"):
            for details in (None, 1, (0, ()), ((1, 1),), (1, 1)):
                self.bad(kind, (1,), details, before=((1,), (p,)))

    def test_the_place_in_the_list(self):
        p, both = self.nodes("p", "(and p)")
        steps = [("part", (p, -both), both), ("given", (p,), None), ("part", (1,), 1), ("resolve", (p, -both), (0, ()))]
        self.assertEqual([is_good_step(self.bank, steps, number) for number in range(4)], [True, False, True, True])


class PartTest(Case):
    def test_lines_of_the_table(self):
        for text, lines in (
            ("true", ["n"]), ("false", ["-n"]), ("(not p)", ["-n -p", "n p"]), ("(and p q)", ["-n p", "-n q", "n -p -q"]),
            ("(or p q)", ["n -p", "n -q", "-n p q"]), ("(imply p q)", ["n p", "n -q", "-n -p q"]),
            ("(if p q r)", ["-n -p q", "n -p -q", "-n p r", "n p -r"]),
            ("(= p q)", ["-n -p q", "-n p -q", "n p q", "n -p -q"]), ("(and)", ["n"]), ("(or)", ["-n"]), ("(or p p)", ["n -p", "-n p"]),
        ):
            n = self.parse(text)
            names = {name: self.parse(name) for name in "pqr"}
            names["n"] = n
            for line in lines:
                literals = [-names[word[1:]] if word.startswith("-") else names[word] for word in line.split()]
                self.good("part", self.clause(*literals), n)
                for literal in literals:
                    self.bad("part", self.clause(-literal, *[each for each in literals if each != literal]), n)

    def test_nodes_of_other_sorts(self):
        n, p = self.nodes("(if p x y)", "p")
        self.bad("part", self.clause(-p, n), n)
        first, second = self.nodes("(= (if p x y) x)", "(= (if p x y) y)")
        self.good("part", self.clause(-p, first), n)
        self.good("part", self.clause(p, second), n)
        self.bad("part", self.clause(p, first), n)
        for text in ("x", "5", "(+ x 1)", "(is_old a)", "(<= x y)", "(= a b)"):
            self.bad("part", (1,), self.parse(text))
            self.bad("part", (), self.parse(text))

    def test_lines_whose_nodes_are_not_there(self):
        n = self.parse("(< x y)")
        before = len(self.bank)
        for literal in range(1, before + 3):
            self.bad("part", self.clause(n, literal), n)
        self.assertEqual(len(self.bank), before)
        m = self.parse("(<= y x)")
        self.good("part", self.clause(n, m), n)
        self.good("part", self.clause(-n, -m), n)
        self.bad("part", self.clause(n, -m), n)

    def test_details(self):
        p, both = self.nodes("p", "(and p p)")
        self.good("part", self.clause(p, -both), both)
        for details in (0, -both, len(self.bank) + 1, 10 ** 30, p, None, (), (both,), (both, None), ((both,),)):
            self.bad("part", self.clause(p, -both), details)
        self.refuse_shapes("part", self.clause(p, -both))


class SameTest(Case):
    def test_equal_nodes_of_one_node(self):
        for text in ("(= a a)", "(= x x)", "(= s s)", "(= (f x) (f x))", "(= p p)"):
            n = self.parse(text)
            self.good("same", (n,), None)
            self.bad("same", (-n,), None)
            self.bad("same", (1, n), None)
            self.bad("same", (), None)
            for details in (n, (), (n,), 0, (None,)):
                self.bad("same", (n,), details)
            self.refuse_shapes("same", (n,), (None,))

    def test_other_nodes(self):
        for text in ("(= a b)", "(= x y)", "(<= x x)", "(distinct a a)", "(and p p)", "true", "p", "(not p)"):
            self.bad("same", (self.parse(text),), None)


class ChainTest(Case):
    def setUp(self):
        super().setUp()
        self.a, self.b, self.c, self.x = self.nodes("a", "b", "c", "x")
        self.ab, self.bc, self.aa, self.bb = self.nodes("(= a b)", "(= b c)", "(= a a)", "(= b b)")

    def test_two_equalities(self):
        walk = (self.a, (self.ab, self.bc))
        self.bad("chain", self.clause(-self.ab, -self.bc), walk)
        ac = self.parse("(= a c)")
        clause = self.clause(ac, -self.ab, -self.bc)
        self.good("chain", clause, walk)
        self.good("chain", clause, (self.c, (self.bc, self.ab)))
        for details in (
            (self.b, (self.ab, self.bc)), (self.a, (self.bc, self.ab)), (self.c, (self.ab, self.bc)), (self.a, (self.ab,)),
            (self.a, (self.ab, self.bc, self.ab)), (self.a, ()), (self.x, (self.ab, self.bc)), (0, (self.ab, self.bc)),
            (-self.a, (self.ab, self.bc)), (self.a, (-self.ab, self.bc)), (self.a, (self.ab, 10 ** 9)), (self.a, (self.ab, 0)),
            (self.a, self.ab, self.bc), (self.a, ((self.ab, self.bc),)), (self.a, (self.ab, self.bc), ()), (self.a,),
            (10 ** 9, (self.ab, self.bc)), ((self.a,), (self.ab, self.bc)), (None, (self.ab, self.bc)), (self.a, (self.ab, None)),
            (self.a, (self.ab, self.b)), (self.a, (self.ab, 1)),
        ):
            self.bad("chain", clause, details)
        self.refuse_shapes("chain", clause)

    def test_the_clause(self):
        ac, ca = self.nodes("(= a c)", "(<= x x)")
        walk = (self.a, (self.ab, self.bc))
        for clause in (
            (ac, -self.ab), (-self.ab, -self.bc), (ac,), (), (-ac, -self.ab, -self.bc), (ac, self.ab, -self.bc),
            (ac, -self.ab, -self.bc, -self.aa), (ca, -self.ab, -self.bc),
        ):
            self.bad("chain", self.clause(*clause), walk)

    def test_an_equality_twice(self):
        # There and back again: the walk ends where it began.
        self.good("chain", self.clause(self.aa, -self.ab), (self.a, (self.ab, self.ab)))
        ac = self.parse("(= a c)")
        self.good("chain", self.clause(ac, -self.ab, -self.bc), (self.a, (self.ab, self.bc, self.bc, self.bc)))
        self.good("chain", self.clause(ac, -self.ab, -self.bc), (self.a, (self.ab, self.ab, self.ab, self.bc)))

    def test_a_node_equal_to_itself(self):
        self.good("chain", self.clause(self.parse("(= a c)"), -self.ab, -self.bb, -self.bc), (self.a, (self.ab, self.bb, self.bc)))
        self.bad("chain", self.clause(self.parse("(= a c)"), -self.ab, -self.bc), (self.a, (self.ab, self.bb, self.bc)))
        self.bad("chain", (self.aa,), (self.a, (self.aa,)))
        self.bad("chain", (-self.aa,), (self.a, (self.aa,)))
        # The clause would have an equality together with its negation.
        self.bad("chain", self.clause(self.aa, -self.ab), (self.a, (self.aa, self.ab, self.ab)))

    def test_one_equality(self):
        # The end of the walk gives the equality itself, so there is no such clause.
        for clause in ((self.ab,), (-self.ab,), (), (self.ab, self.bc)):
            for start in (self.a, self.b):
                self.bad("chain", self.clause(*clause), (start, (self.ab,)))

    def test_a_walk_without_equalities(self):
        for clause in ((self.aa,), (-self.aa,), ()):
            self.bad("chain", clause, (self.a, ()))

    def test_a_walk_that_leaves_its_way(self):
        ac, bc = self.nodes("(= a c)", "(= b c)")
        # The present node of the walk is no part of the first or of the second equality.
        for start, equalities, end in ((self.c, (self.ab,), ac), (self.c, (self.ab,), bc), (self.b, (self.ab, self.bc), self.bb), (self.a, (self.bc,), ac)):
            self.bad("chain", self.clause(end, *[-each for each in equalities if each != end]), (start, equalities))
        for equalities in ((self.ab, self.ab, self.bc), (self.ab, self.aa, self.bc)):
            for end in (ac, self.bc, self.ab):
                if end not in equalities:
                    self.bad("chain", self.clause(end, *{-each for each in equalities}), (self.a, equalities))

    def test_sort_truth_and_numbers(self):
        for x, y, z in (("p", "q", "r"), ("x", "y", "z"), ("s", "t", "u")):
            start, xy, yz = self.nodes(x, f"(= {x} {y})", f"(= {z} {y})")
            self.bad("chain", self.clause(-xy, -yz), (start, (xy, yz)))
            xz = self.parse(f"(= {z} {x})")
            self.good("chain", self.clause(xz, -xy, -yz), (start, (xy, yz)))

    def test_other_nodes_than_equal_nodes(self):
        p, q, most, other, pq = self.nodes("p", "q", "(<= x y)", "(distinct a b)", "(and p q)")
        self.parse("(= p q)")
        for node in (most, other, pq, p, self.a):
            self.bad("chain", self.clause(self.ab, -node), (self.a, (node,)))
            self.bad("chain", self.clause(self.ab, -node), (p, (node,)))


class LikeTest(Case):
    def test_one_part(self):
        u, v, w = self.nodes("(at a)", "(at b)", "(at (h a a))")
        parts = self.parse("(= a b)")
        self.bad("like", (-parts,), (u, v))
        ends = self.parse("(= (at b) (at a))")
        clause = self.clause(-parts, ends)
        self.good("like", clause, (u, v))
        self.good("like", clause, (v, u))
        for wrong in ((parts, ends), (-parts, -ends), (ends,), (-parts,), (), (-parts, ends, 1)):
            self.bad("like", self.clause(*wrong), (u, v))
        for details in (
            (u, w), (u,), (u, v, u), u, None, (u, 0), (u, -v), (0, v), (u, 10 ** 9), ((u, v),), (u, (v,)), (parts, ends), (u, u),
            (None, v), (u, self.parse("a")), (self.parse("home"), v),
        ):
            self.bad("like", clause, details)
        self.refuse_shapes("like", clause)

    def test_parts_that_are_the_same_and_parts_that_differ(self):
        u, v, w = self.nodes("(h a b)", "(h a c)", "(h c a)")
        uv, uw, bc, ac, ab = self.nodes("(= (h a b) (h a c))", "(= (h a b) (h c a))", "(= b c)", "(= a c)", "(= a b)")
        self.good("like", self.clause(uv, -bc), (u, v))
        self.bad("like", self.clause(uv, -bc, -ac), (u, v))
        self.good("like", self.clause(uw, -ac, -ab), (u, w))
        self.bad("like", self.clause(uw, -ac), (u, w))
        self.bad("like", self.clause(uw, -ab), (u, w))

    def test_one_pair_of_parts_at_two_places(self):
        u, v, uv, ab = self.nodes("(h a a)", "(h b b)", "(= (h a a) (h b b))", "(= a b)")
        self.good("like", self.clause(uv, -ab), (u, v))
        u, v, uv = self.nodes("(h a b)", "(h b a)", "(= (h a b) (h b a))")
        self.good("like", self.clause(uv, -ab), (v, u))

    def test_parts_whose_equal_node_is_missing(self):
        u, v, uv, ab = self.nodes("(h a b)", "(h b c)", "(= (h a b) (h b c))", "(= a b)")
        self.bad("like", self.clause(uv, -ab), (u, v))
        bc = self.parse("(= c b)")
        self.good("like", self.clause(uv, -ab, -bc), (u, v))

    def test_calls_of_sort_truth(self):
        u, v, ab = self.nodes("(is_old a)", "(is_old b)", "(= a b)")
        self.good("like", self.clause(-ab, -u, v), (u, v))
        self.good("like", self.clause(-ab, -v, u), (v, u))
        self.bad("like", self.clause(-ab, -v, u), (u, v))
        self.bad("like", self.clause(-ab, v), (u, v))
        self.bad("like", self.clause(-ab, -u), (u, v))
        # The equal node of the two calls plays no part here.
        uv = self.parse("(= (is_old a) (is_old b))")
        self.bad("like", self.clause(-ab, uv), (u, v))

    def test_a_call_and_itself(self):
        u = self.parse("(at a)")
        self.bad("like", (), (u, u))
        uu = self.parse("(= (at a) (at a))")
        self.good("like", (uu,), (u, u))
        old = self.parse("(is_old a)")
        self.parse("(= (is_old a) (is_old a))")
        for clause in ((), (old,), (-old,), (self.parse("(= a a)"),)):
            self.bad("like", clause, (old, old))
        p = self.parse("p")
        self.bad("like", (p,), (p, p))

    def test_calls_of_different_functions(self):
        x, y, s, t, xy, st = self.nodes("(f x)", "x", "(g s x)", "s", "(= (f x) x)", "(= (g s x) s)")
        a, b, ab = self.nodes("a", "b", "(= a b)")
        for u, v, clause in ((x, y, (xy,)), (s, t, (st,)), (a, b, (ab,)), (1, 2, (1,)), (1, 1, (1,)), (ab, ab, (1,))):
            self.bad("like", clause, (u, v))

    def test_numbers(self):
        u, v, uv, st, xx = self.nodes("(g s (+ x 1))", "(g t (+ x 1))", "(= (g s (+ x 1)) (g t (+ x 1)))", "(= s t)", "(= (+ x 1) (+ x 1))")
        self.good("like", self.clause(uv, -st), (u, v))
        self.bad("like", self.clause(uv, -st, -xx), (u, v))


class SumTest(Case):
    ONE = (1, 1)

    def test_a_ring(self):
        xy, yz, zx = self.nodes("(<= x (+ y -1))", "(<= y z)", "(<= z x)")
        clause = self.clause(-xy, -yz, -zx)
        self.good("sum", clause, (self.ONE, self.ONE, self.ONE))
        self.good("sum", clause, ((2, 3), (2, 3), (2, 3)))
        for weights in (
            (self.ONE, self.ONE), (self.ONE,) * 4, (), (self.ONE, self.ONE, (2, 1)), (self.ONE, self.ONE, (0, 1)),
            (self.ONE, self.ONE, (-1, 1)), (self.ONE, self.ONE, (2, 2)), (self.ONE, self.ONE, (1, 0)), (self.ONE, self.ONE, (-1, -1)),
            (self.ONE, self.ONE, (1, -1)), (self.ONE, self.ONE, 1), (1, 1, 1), (self.ONE, self.ONE, None), None, 1,
            (self.ONE, self.ONE, (1,)), (self.ONE, self.ONE, (1, 1, 1)), (self.ONE, self.ONE, ((1, 1), 1)), ((self.ONE,) * 3,),
            (self.ONE, self.ONE, (1, None)), (self.ONE, self.ONE, ()),
        ):
            self.bad("sum", clause, weights)
        self.refuse_shapes("sum", clause)
        for literal in clause:
            rest = [each for each in clause if each != literal]
            self.bad("sum", self.clause(-literal, *rest), (self.ONE,) * 3)
            self.bad("sum", self.clause(*rest), (self.ONE,) * 2)

    def test_whole_numbers_with_a_constant_of_zero(self):
        # No literal form of whole numbers is strict.
        xy, yx = self.nodes("(<= x y)", "(<= y x)")
        self.bad("sum", self.clause(-xy, -yx), (self.ONE, self.ONE))
        self.good("sum", self.clause(xy, yx), (self.ONE, self.ONE))
        above, below = self.nodes("(<= x (+ y 1))", "(<= (+ y 2) x)")
        self.good("sum", self.clause(-above, -below), (self.ONE, self.ONE))
        # Of the negations, too, there is no integer between.
        self.good("sum", self.clause(above, below), (self.ONE, self.ONE))
        wide = self.parse("(<= (+ y 3) x)")
        self.bad("sum", self.clause(above, wide), (self.ONE, self.ONE))

    def test_fractions_with_and_without_a_strict_form(self):
        st, ts = self.nodes("(<= s t)", "(<= t s)")
        self.bad("sum", self.clause(-st, -ts), (self.ONE, self.ONE))
        self.good("sum", self.clause(st, ts), (self.ONE, self.ONE))
        self.bad("sum", self.clause(st, -ts), (self.ONE, self.ONE))
        up, down = self.nodes("(<= s 1/2)", "(<= 1/2 s)")
        self.bad("sum", self.clause(-up, -down), (self.ONE, self.ONE))
        half = self.parse("(<= 2/3 s)")
        self.good("sum", self.clause(-up, -half), (self.ONE, self.ONE))
        self.bad("sum", self.clause(up, half), (self.ONE, self.ONE))
        # One strict form is enough, and the constant is zero.
        upper = self.parse("(<= (* 2/1 s) t)")
        lower = self.parse("(<= (* 1/2 t) s)")
        self.good("sum", self.clause(lower, upper), ((2, 1), self.ONE)[::1 if lower < upper else -1])

    def test_one_strict_form_at_any_place(self):
        one, other, third = self.nodes("(<= (* 2/1 s) t)", "(<= s (* 1/2 t))", "(<= (* 2/1 s) (* 1/1 t))")
        self.good("sum", self.clause(-one, other), (self.ONE, (2, 1)))
        self.good("sum", self.clause(other, -third), ((2, 1), self.ONE))
        self.good("sum", self.clause(one, -other), (self.ONE, (2, 1)))
        self.good("sum", self.clause(-other, third), ((2, 1), self.ONE))

    def test_a_literal_that_is_not_needed(self):
        low, more, less = self.nodes("(<= 2/1 1/1)", "(<= s t)", "(<= t s)")
        self.good("sum", (-low,), (self.ONE,))
        for weight in ((0, 1), (1, 0), (0, 0), (-1, 1), (2, 1)):
            self.bad("sum", self.clause(-low, -more), (self.ONE, weight))
        self.good("sum", self.clause(-low, -more, -less), (self.ONE, self.ONE, self.ONE))
        self.bad("sum", self.clause(-low, -more, -less), (self.ONE, (0, 1), (0, 1)))
        always = self.parse("(<= 1/1 1/1)")
        self.bad("sum", self.clause(-low, -always), (self.ONE, (0, 1)))
        self.good("sum", self.clause(-low, -always), (self.ONE, (3, 1)))

    def test_weights_that_matter(self):
        low, high = self.nodes("(<= 1/1 s)", "(<= (* 1/2 s) 0/1)")
        order = [low, high]
        self.good("sum", self.clause(-low, -high), tuple({low: (1, 1), high: (2, 1)}[each] for each in sorted(order)))
        self.good("sum", self.clause(-low, -high), tuple({low: (1, 2), high: (1, 1)}[each] for each in sorted(order)))
        self.bad("sum", self.clause(-low, -high), (self.ONE, self.ONE))

    def test_forms_without_rows(self):
        for text, sign in (
            ("(<= 1/2 1/3)", 1), ("(<= 1/2 1/2)", -1), ("(<= 1/3 1/2)", -1), ("(<= 3 2)", 1), ("(<= 2 2)", -1),
            ("(<= (+ x 1) x)", 1), ("(<= x x)", -1), ("(<= (+ s t) (+ t s))", -1),
        ):
            n = self.parse(text)
            self.good("sum", (-sign * n,), (self.ONE,))
            self.good("sum", (-sign * n,), ((7, 3),))
            self.bad("sum", (sign * n,), (self.ONE,))

    def test_other_nodes(self):
        less, equal = self.nodes("(< x x)", "(= x x)")
        for clause in ((less,), (-less,), (equal,), (-equal,), (1,), (-2,)):
            self.bad("sum", clause, (self.ONE,))
        low = self.parse("(<= 2 1)")
        self.good("sum", (-low,), (self.ONE,))
        self.bad("sum", self.clause(-low, 1), (self.ONE, self.ONE))

    def test_no_literals(self):
        self.bad("sum", (), ())
        self.bad("sum", (), (self.ONE,))


class ResolveTest(Case):
    def setUp(self):
        super().setUp()
        self.p, self.q, self.r = self.nodes("p", "q", "r")

    def test_pair_by_pair(self):
        p, q, r = self.p, self.q, self.r
        before = ((p, q), (-q, r), (-p, r), (-r,))
        self.good("resolve", (p, r), (0, ((q, 1),)), before=before)
        self.good("resolve", (r,), (0, ((q, 1), (p, 2))), before=before)
        self.good("resolve", (r,), (0, ((p, 2), (q, 1))), before=before)
        self.good("resolve", (), (0, ((q, 1), (p, 2), (r, 3))), before=before)
        self.good("resolve", (p, q), (0, ()), before=before)
        self.good("resolve", (-q, r), (1, ()), before=before)
        for clause, details in (
            ((r,), (0, ((q, 1),))), ((p, q), (0, ((q, 1),))), ((p, r), (0, ((-q, 1),))), ((p, r), (0, ((q, 2),))),
            ((p, r), (0, ((r, 1),))), ((p, r), (1, ((q, 0),))), ((p, r), (0, ((q, 0),))), ((), (0, ((q, 1), (r, 3), (p, 2)))),
            ((r,), (0, ((q, 1), (q, 1), (p, 2)))), ((p, q), (1, ())), ((), ()),
        ):
            self.bad("resolve", clause, details, before=before)
        self.good("resolve", (p, r), (1, ((-q, 0),)), before=before)

    def test_a_literal_with_its_negation_in_between(self):
        p, q, r = self.p, self.q, self.r
        before = ((p, q), (-q, -p), (-p, r), (p, r))
        self.bad("resolve", (p,), (0, ((q, 1),)), before=before)
        self.good("resolve", (p, r), (0, ((q, 1), (-p, 3))), before=before)
        self.good("resolve", (-p, r), (0, ((q, 1), (p, 2))), before=before)
        self.good("resolve", (r,), (0, ((q, 1), (p, 2), (-p, 3))), before=before)

    def test_a_literal_that_comes_back(self):
        p, q, r = self.p, self.q, self.r
        before = ((p, q), (-q, p, r), (-p, q), (-r,))
        self.good("resolve", (p,), (0, ((q, 1), (p, 2), (q, 1), (r, 3))), before=before)

    def test_numbers_of_steps(self):
        p, q = self.p, self.q
        before = ((p, q), (-q,))
        self.good("resolve", (p,), (0, ((q, 1),)), before=before)
        for details in (
            (2, ()), (3, ()), (-1, ()), (-3, ()), (10 ** 30, ()), (0, ((q, 2),)), (0, ((q, -1),)), (0, ((q, 3),)), (0, ((q, 10 ** 30),)),
        ):
            self.bad("resolve", (p,), details, before=before)
            self.bad("resolve", (p, q), details, before=before)
        # A step that names itself or a later one is not good, though the sets would fit.
        steps = [("resolve", (p,), (0, ())), ("resolve", (p,), (2, ())), ("resolve", (p,), (1, ()))]
        self.assertEqual([is_good_step(self.bank, steps, number) for number in range(3)], [False, False, True])
        steps = [("given", (p, q), None), ("resolve", (p,), (0, ((q, 2),))), ("given", (-q,), None)]
        self.assertFalse(is_good_step(self.bank, steps, 1))

    def test_shapes(self):
        p, q = self.p, self.q
        for details in (
            0, None, (), (0,), (0, (), ()), ((0, ()),), (0, (q, 1)), (0, ((q, 1, 0),)), (0, ((q,),)), (0, ((q, (1,)),)), (0, q, 1),
            (0, (((q,), 1),)), (0, ((q, None),)), (0, ((None, 1),)), (None, ((q, 1),)), ((0,), ((q, 1),)), (0, None), (0, 0), (0, (None,)),
        ):
            self.bad("resolve", (p,), details, before=((p, q), (-q,)))
        self.refuse_shapes("resolve", (1, p), ((0, ()),))
        self.good("resolve", (1, p), (0, ()), before=((1, p),))

    def test_whether_the_used_steps_are_good_does_not_matter(self):
        p, q = self.p, self.q
        steps = [("sum", (p, q), 7), ("nonsense", (-q,), (None,)), ("resolve", (p,), (0, ((q, 1),)))]
        self.assertEqual([is_good_step(self.bank, steps, number) for number in range(3)], [False, False, True])


class ChanceTest(unittest.TestCase):
    """Steps that solving adds, changed by chance, against a plain version of the rules."""

    def steps(self, chance):
        bank = new_bank()
        log = Log()
        sentences = [parse(bank, text) for text in knotted_sentences(chance, 18)]
        nodes, numbers = question(bank, log, sentences)
        joined = Joined(bank, log, nodes)
        truths = [node for node in nodes if bank.sort_of(node) == "truth"]
        Search(log, truths, numbers, joined).ask(sentences)
        return bank, log.all_steps()

    def shift(self, chance, bank, value, depth=0):
        """The value, changed a little."""
        if type(value) is not tuple:
            return chance.choice((None, (), (value,), 0, chance.randrange(1, len(bank)), (value or 0) + 1, (value or 0) - 1, -(value or 0)))
        if depth > 3 or not value or chance.random() < 0.2:
            return chance.choice((value[1:], value[:-1], value + value[-1:], value[::-1], value + (1,), None, 0, (value,), value[:1] * 2))
        place = chance.randrange(len(value))
        return value[:place] + (self.shift(chance, bank, value[place], depth + 1),) + value[place + 1:]

    def changed(self, chance, bank, step):
        kind, clause, details = step
        way = chance.randrange(6)
        if way == 0:
            return (chance.choice((*KINDS, "given", "x")), clause, details)
        if way == 1:
            return (kind, tuple(-each if chance.random() < 0.3 else each for each in clause), details)
        if way == 2:
            extra = chance.randrange(1, len(bank) + 2) * chance.choice((1, -1))
            return (kind, tuple(sorted({*clause, extra}, key=abs)), details)
        if way == 3:
            return (kind, chance.choice((clause[1:], clause[::-1], clause + clause[-1:], (*clause, 0), clause[:-1])), details)
        return (kind, clause, self.shift(chance, bank, details))

    def test_by_chance(self):
        counts = {True: 0, False: 0}
        kinds = {}
        for seed in range(40):
            chance = random.Random(seed)
            bank, steps = self.steps(chance)
            nodes = list(bank)
            for number in range(len(steps)):
                self.assertIs(is_good_step(bank, steps, number), True)
                kinds[steps[number][0]] = kinds.get(steps[number][0], 0) + 1
            for _ in range(300):
                number = chance.randrange(len(steps))
                others = steps[:number] + [self.changed(chance, bank, steps[number])] + steps[number + 1:]
                answer = is_good_step(bank, others, number)
                self.assertIs(answer, is_good(bank, others, number), others[number])
                counts[answer] += 1
            self.assertEqual(list(bank), nodes)
        self.assertGreater(counts[True], 150, counts)
        self.assertGreater(counts[False], 5000, counts)
        self.assertEqual(sorted(kinds), sorted(KINDS))

    def test_good_steps_have_valid_clauses(self):
        for seed in range(30):
            chance = random.Random(1000 + seed)
            bank, steps = self.steps(chance)
            for k in range(4):
                model = some_model(chance.randrange(10 ** 6), bank.signature)
                for _, clause, _ in steps[:400]:
                    self.assertTrue(clause_holds(bank, model, clause))


if __name__ == "__main__":
    unittest.main()
