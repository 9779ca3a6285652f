"""papersat/papertext.py: points 69 and 70."""

import unittest

from papersat.bank import Bank
from papersat.checker import check
from papersat.errors import BadNode, BadSort, BadText, UnknownName
from papersat.papertext import read_paper, write_paper
from papersat.printer import print_term
from papersat.reader import parse
from papersat.rules import is_good_step
from tests.answers import refused_sentences
from tests.support import new_bank, new_signature


def lines(*rows):
    return "\n".join(rows)


class WriteTest(unittest.TestCase):
    def setUp(self):
        self.bank = new_bank()

    def node(self, text):
        return parse(self.bank, text)

    def write(self, *steps):
        before = list(self.bank)
        text = write_paper(self.bank, list(steps))
        self.assertEqual(list(self.bank), before)
        return text

    def test_an_empty_list(self):
        self.node("(and p q)")
        self.assertEqual(self.write(), "")

    def test_steps_over_true_and_false_alone(self):
        self.assertEqual(self.write(("part", (-2,), 2)), "step 0 part -2 : 2")
        self.assertEqual(self.write(("part", (1,), 1), ("resolve", (1,), (0, ()))), lines("step 0 part 1 : 1", "step 1 resolve 1 : 0"))

    def test_part(self):
        self.node("(or r q)")
        both = self.node("(and q p)")
        q, p = self.node("q"), self.node("p")
        self.assertEqual(
            self.write(("part", (p, -both), both)),
            lines("node 3 call q", "node 4 call p", "node 5 and 3 4", f"step 0 part {'4 -5'} : 5"),
        )
        self.assertGreater(q, 3)

    def test_same(self):
        self.node("b")
        equal = self.node("(= a a)")
        self.assertEqual(self.write(("same", (equal,), None)), lines("node 3 call a", "node 4 equal 3 3", "step 0 same 4 :"))

    def test_chain(self):
        a, ab, bc, ac = (self.node(text) for text in ("a", "(= a b)", "(= b c)", "(= a c)"))
        self.assertEqual(self.write(("chain", (-ab, -bc, ac), (a, (ab, bc)))), lines(
            "node 3 call a", "node 4 call b", "node 5 equal 3 4", "node 6 call c", "node 7 equal 4 6", "node 8 equal 3 6",
            "step 0 chain -5 -7 8 : 3 5 7",
        ))
        self.assertEqual(self.write(("chain", (), (a, ()))), lines("node 3 call a", "step 0 chain : 3"))

    def test_like(self):
        u, v, old = self.node("(h a b)"), self.node("(h b a)"), self.node("(is_old a)")
        self.assertEqual(self.write(("like", (), (v, u))), lines(
            "node 3 call a", "node 4 call b", "node 5 call h 3 4", "node 6 call h 4 3", "step 0 like : 6 5",
        ))
        self.assertEqual(self.write(("like", (-old,), (old, 1))), lines("node 3 call a", "node 4 call is_old 3", "step 0 like -4 : 4 1"))

    def test_sum(self):
        most = self.node("(<= (+ (* -2/3 s) 1/2) 0/1)")
        self.assertEqual(self.write(("sum", (-most,), ((7, 3),))), lines(
            "node 3 call s", "node 4 scale -2/3 3", "node 5 ratio 1/2", "node 6 sum 4 5", "node 7 ratio 0/1", "node 8 most 6 7",
            "step 0 sum -8 : 7/3",
        ))
        wholes = self.node("(<= (+ x -5) 12)")
        self.assertEqual(self.write(("sum", (wholes,), ((1, 1), (2, 1)))), lines(
            "node 3 call x", "node 4 shift -5 3", "node 5 whole 12", "node 6 most 4 5", "step 0 sum 6 : 1/1 2/1",
        ))
        self.assertEqual(self.write(("sum", (), ())), "step 0 sum :")

    def test_resolve(self):
        p, q, r = self.node("p"), self.node("q"), self.node("r")
        self.assertEqual(self.write(("resolve", (p,), (7, ((q, 0), (-r, 12))))), lines(
            "node 3 call p", "node 4 call q", "node 5 call r", "step 0 resolve 3 : 7 4 0 -5 12",
        ))
        self.assertEqual(self.write(("resolve", (), (0, ((-q, 3),)))), lines("node 3 call q", "step 0 resolve : 0 -3 3"))

    def test_other_ops(self):
        for text, rows in (
            ("(not p)", ["node 3 call p", "node 4 not 3"]), ("(and)", ["node 3 and"]), ("(or true false)", ["node 3 or 1 2"]),
            ("(imply p p)", ["node 3 call p", "node 4 imply 3 3"]), ("(distinct a a)", ["node 3 call a", "node 4 distinct 3 3"]),
            ("(if p q true)", ["node 3 call p", "node 4 call q", "node 5 if 3 4 1"]),
            ("(< 0 -7)", ["node 3 whole 0", "node 4 whole -7", "node 5 less 3 4"]),
        ):
            self.bank = new_bank()
            node = self.node(text)
            self.assertEqual(self.write(("part", (), node)), lines(*rows, f"step 0 part : {len(rows) + 2}"))

    def test_only_nodes_that_occur(self):
        self.node("(and p q r (= x y))")
        p, x = self.node("p"), self.node("x")
        self.assertEqual(self.write(("part", (p,), 1), ("chain", (), (x, ()))), lines(
            "node 3 call p", "node 4 call x", "step 0 part 3 : 1", "step 1 chain : 4",
        ))

    def test_long_numbers(self):
        # Python alone refuses to turn such an integer into a text.
        big = 7 * 10 ** 5000 + 1
        most = self.bank.make("most", None, (self.bank.make("whole", big, ()), self.bank.make("whole", -big, ())))
        text = self.write(("sum", (-most,), ((big, 2),)), ("resolve", (), (big, ())))
        digits = "7" + "0" * 4999 + "1"
        self.assertEqual(text, lines(
            f"node 3 whole {digits}", f"node 4 whole -{digits}", "node 5 most 3 4", f"step 0 sum -5 : {digits}/2", f"step 1 resolve : {digits}",
        ))
        bank, steps = read_paper(self.bank.signature, text)
        self.assertEqual(steps, [("sum", (-5,), ((big, 2),)), ("resolve", (), (big, ()))])
        self.assertEqual(bank.node(4), ("whole", -big, ()))


class ReadTest(unittest.TestCase):
    def setUp(self):
        self.signature = new_signature()

    def read(self, *rows):
        bank, steps = read_paper(self.signature, lines(*rows))
        self.assertIs(type(bank), Bank)
        self.assertIs(bank.signature, self.signature)
        self.assertIs(type(steps), list)
        return bank, steps

    def bad(self, k, *rows):
        with self.assertRaises(BadText) as caught:
            read_paper(self.signature, lines(*rows))
        self.assertEqual(caught.exception.place, k, rows)

    def test_the_empty_text(self):
        bank, steps = read_paper(self.signature, "")
        self.assertEqual((list(bank), steps), ([("true", None, ()), ("false", None, ())], []))

    def test_nodes(self):
        bank, steps = self.read(
            "node 3 call a", "node 4 call x", "node 5 shift -3 4", "node 6 whole 7", "node 7 most 5 6", "node 8 ratio -1/2",
            "node 9 scale 2/1 8", "node 10 sum 9 8 8", "node 11 call h 3 3", "node 12 equal 3 11", "node 13 not 12", "node 14 and",
            "node 15 if 1 2 14", "node 16 distinct 4 5 6",
        )
        self.assertEqual(steps, [])
        self.assertEqual(list(bank)[2:], [
            ("call", "a", ()), ("call", "x", ()), ("shift", -3, (4,)), ("whole", 7, ()), ("most", None, (5, 6)), ("ratio", (-1, 2), ()),
            ("scale", (2, 1), (8,)), ("sum", None, (9, 8, 8)), ("call", "h", (3, 3)), ("equal", None, (3, 11)), ("not", None, (12,)),
            ("and", None, ()), ("if", None, (1, 2, 14)), ("distinct", None, (4, 5, 6)),
        ])

    def test_steps(self):
        _, steps = self.read(
            "node 3 call p", "step 0 part 3 -4 : 5", "step 1 same :", "step 2 chain -3 -3 : 0", "step 3 chain : 1 2 3", "step 4 like 4 3 : 7 8",
            "step 5 sum :", "step 6 sum -1 : 2/4 3/1", "step 7 resolve : 99", "step 8 resolve 1 2 3 : 0 -5 6 7 8",
        )
        self.assertEqual(steps, [
            ("part", (3, -4), 5), ("same", (), None), ("chain", (-3, -3), (0, ())), ("chain", (), (1, (2, 3))), ("like", (4, 3), (7, 8)),
            ("sum", (), ()), ("sum", (-1,), ((1, 2), (3, 1))), ("resolve", (), (99, ())), ("resolve", (1, 2, 3), (0, ((-5, 6), (7, 8)))),
        ])

    def test_ratio_words_not_in_lowest_terms(self):
        bank, steps = self.read("node 3 ratio 2/4", "node 4 scale -6/3 3", "node 5 ratio 0/7", "step 0 sum : 10/5 3/9")
        self.assertEqual([bank.node(number)[1] for number in (3, 4, 5)], [(1, 2), (-2, 1), (0, 1)])
        self.assertEqual(steps, [("sum", (), ((2, 1), (1, 3)))])
        self.bad(1, "node 3 ratio 1/2", "node 4 ratio 2/4")

    def test_lines_without_the_form(self):
        for row in (
            "", " ", "node", "step", "node 3 ", "node 3 call ", "node 3 whole ", "foo 0 part 1 : 1", "Step 0 part 1 : 1", "steps 0 part 1 : 1", "node 3", "step 0", "step 0 part", "step 0 same", "Node 3 call p", "foo 3 call p", "node  3 call p",
            "node 3 call p ", " node 3 call p", "node 3 call", "node 3 whole", "node 3 shift", "node 3 ratio", "node 3 scale", "node 03 call p",
            "node -3 call p", "node +3 call p", "node x call p", "node 3/1 call p", "node 3 whole 1/2", "node 3 whole x", "node 3 whole 05",
            "node 3 whole -0", "node 3 ratio 5", "node 3 ratio 1/0", "node 3 ratio 1/-2", "node 3 ratio x", "node 3 shift 1/2 4", "node 3 scale 2 4",
            "node 3 and x", "node 3 and -1", "node 3 and 01", "node 3 and 1 ", "node 3 and 1  2", "node 3 call p x", "node 3 call p -1",
            "node 3 foo x", "node 3 foo -1", "node 3 true x", "node 3 whole 5 x", "node 3 ratio 1/2 1/2",
            "step 0 part 1 1", "step 0 part 1 :", "step 0 part 1 : 1 1", "step 0 part 1 : -1", "step 0 part 1 : x", "step 0 part 0 : 1",
            "step 0 part x : 1", "step 0 part -0 : 1", "step 0 part 01 : 1", "step 0 part 1/1 : 1", "step 0 part 1 : 1 :", "step 0 part : : 1",
            "step 0 part 1 : 01", "step 0 same 1 : 1", "step 0 same 1", "step 0 same 1 : ", "step 0 same 1 :1", "step 0 same 1: ",
            "step 0 chain :", "step 0 chain : -3", "step 0 chain : 3 -4", "step 0 chain : 3 x", "step 0 like :", "step 0 like : 3",
            "step 0 like : 3 4 5", "step 0 like : 3 -4", "step 0 sum 1 : 1", "step 0 sum 1 : 0/1", "step 0 sum 1 : -1/2", "step 0 sum 1 : 1/2 x",
            "step 0 sum 1 : 1/0", "step 0 resolve :", "step 0 resolve : -1", "step 0 resolve : 0 1", "step 0 resolve : 0 0 1",
            "step 0 resolve : 0 1 -1", "step 0 resolve : 0 1 2 3", "step 0 resolve : x", "step 0 resolve : 0 x 1", "step 0 resolve : 0 1 x",
            "step 0 given 1 : 1", "step 0 given 1 :", "step 0 : 1", "step 0 parts 1 : 1", "step 00 part 1 : 1", "step -0 part 1 : 1",
            "step x part 1 : 1", "step : part 1 : 1", "step 0 part 1 ; 1",
        ):
            if row:
                self.bad(0, row)
            self.bad(1, "node 3 call q", row)
            self.bad(2, "node 3 call q", "node 4 call r", row)
        for row in ("step 1 part 1 : 1", "step 2 same :", "step 10 sum :"):
            self.bad(0, row)

    def test_the_number_of_a_step(self):
        self.bad(1, "step 0 part 1 : 1", "step 0 part 1 : 1")
        self.bad(1, "step 0 part 1 : 1", "step 2 part 1 : 1")
        self.bad(2, "node 3 call p", "step 0 part 1 : 1", "step 3 part 1 : 1")
        self.bad(1, "node 3 call p", "step 1 part 1 : 1")

    def test_a_node_line_behind_a_step_line(self):
        self.bad(1, "step 0 part 1 : 1", "node 3 call p")
        # Its own errors do not count then.
        self.bad(1, "step 0 part 1 : 1", "node 3 call nobody")
        self.bad(1, "step 0 part 1 : 1", "node 3 and 77")
        self.bad(1, "step 0 part 1 : 1", "node 1 part 1 : 1")

    def test_the_number_of_a_node(self):
        for row in ("node 4 call p", "node 2 call p", "node 0 call p", f"node {10 ** 30} call p"):
            self.bad(0, row)
        self.bad(1, "node 3 call p", "node 3 call q")
        self.bad(1, "node 3 call p", "node 5 call q")

    def test_a_node_that_is_not_new(self):
        for row in ("node 1 true", "node 2 false", "node 3 true"):
            self.bad(0, row)
        self.bad(1, "node 3 call p", "node 3 call p")
        self.bad(1, "node 3 call p", "node 4 call p")
        self.bad(3, "node 3 call a", "node 4 call b", "node 5 equal 3 4", "node 5 equal 4 3")

    def test_parts_in_another_order(self):
        self.bad(2, "node 3 call a", "node 4 call b", "node 5 equal 4 3")
        self.read("node 3 call a", "node 4 call b", "node 5 distinct 4 3", "node 6 equal 3 3")

    def test_errors_of_making(self):
        for error, attribute, worth, *rows in (
            (BadSort, "op", "foo", "node 3 foo"), (BadSort, "op", "foo", "node 3 foo 1 2"), (BadSort, "op", "foo", "node 3 foo 99"),
            (BadSort, "op", "call2", "node 9 call2 1"), (UnknownName, "name", "nobody", "node 3 call nobody"),
            (UnknownName, "name", "thing", "node 3 call thing"), (UnknownName, "name", "nobody", "node 3 call nobody 99"),
            (UnknownName, "name", ":", "node 3 call :"), (UnknownName, "name", "1/2", "node 3 call 1/2"),
            (BadNode, "number", 3, "node 3 not 3"), (BadNode, "number", 0, "node 3 and 1 0 99"), (BadNode, "number", 10 ** 25, f"node 3 and {10 ** 25}"),
            (BadNode, "number", 4, "node 3 call h 4 5"), (BadSort, "op", "not", "node 3 not 1 2"), (BadSort, "op", "not", "node 3 not"),
            (BadSort, "op", "whole", "node 3 whole 5 1"), (BadSort, "op", "ratio", "node 3 ratio 2/4 2"), (BadSort, "op", "shift", "node 3 shift 1 1"),
            (BadSort, "op", "true", "node 3 true 1"), (BadSort, "op", "call", "node 3 call h"), (BadSort, "op", "equal", "node 3 equal 1"),
            (BadSort, "op", "scale", "node 3 scale 2/4"), (BadSort, "op", "most", "node 7 most 2 1"),
        ):
            for before in ([], ["node 3 call q"]):
                if worth in (3, 4) and before:
                    continue
                with self.assertRaises(error) as caught:
                    read_paper(self.signature, lines(*before, *rows))
                self.assertEqual(getattr(caught.exception, attribute), worth)

    def test_the_first_error_counts(self):
        self.bad(0, "node 3 whole x", "node 3 call nobody")
        with self.assertRaises(UnknownName):
            self.read("node 3 call nobody", "node 3 whole x")
        self.bad(1, "node 3 call p", "step 1 part 1 : 1", "node 3 foo", "step")
        self.bad(2, "node 3 call p", "step 0 part 1 : 1", "node 4 foo", "step")
        with self.assertRaises(BadSort):
            self.read("node 3 call p", "node 4 foo", "step 7 part 1 : 1")
        # In one line the form comes first, then making, then the number.
        self.bad(0, "node 3 foo x")
        self.bad(0, "node 3 call nobody x")
        self.bad(0, "node x call nobody")
        with self.assertRaises(UnknownName):
            self.read("node 99 call nobody")
        with self.assertRaises(BadSort):
            self.read("node 99 not")

    def test_empty_lines(self):
        for text, k in (("\n", 0), ("node 3 call p\n", 1), ("\nnode 3 call p", 0), ("step 0 part 1 : 1\n\nstep 1 part 1 : 1", 1), (" ", 0)):
            with self.assertRaises(BadText) as caught:
                read_paper(self.signature, text)
            self.assertEqual(caught.exception.place, k)

    def test_other_properties_are_not_looked_at(self):
        _, steps = self.read("step 0 part -7 3 3 -3 99 : 1000", "step 1 resolve -9 -9 : 5 4 1")
        self.assertEqual(steps, [("part", (-7, 3, 3, -3, 99), 1000), ("resolve", (-9, -9), (5, ((4, 1),)))])


class BothWaysTest(unittest.TestCase):
    def check(self, bank, steps):
        copy = list(steps)
        text = write_paper(bank, steps)
        self.assertEqual(steps, copy)
        other, read = read_paper(bank.signature, text)
        self.assertEqual(len(read), len(steps))
        for number in range(len(steps)):
            self.assertEqual(is_good_step(bank, steps, number), is_good_step(other, read, number), steps[number])
            self.assertEqual(read[number][0], steps[number][0])
            self.assertEqual(len(read[number][1]), len(steps[number][1]))
            for literal, again in zip(steps[number][1], read[number][1]):
                self.assertEqual(print_term(other, abs(again)), print_term(bank, abs(literal)))
                self.assertEqual(again > 0, literal > 0)
        self.assertEqual(write_paper(other, read), text)
        return text

    def test_papers(self):
        for _, bank, answer in refused_sentences(self, 60, 20):
            text = self.check(bank, answer.paper)
            # The text can be checked at another bank, against the sentences read there.
            other, steps = read_paper(bank.signature, text)
            again = [parse(other, print_term(bank, sentence)) for sentence in answer.sentences]
            self.assertTrue(check(other, again, steps))
            core = [parse(other, print_term(bank, sentence)) for sentence in answer.core]
            self.assertFalse(check(other, core[1:], steps))

    def test_steps_that_are_not_good(self):
        bad = 0
        for chance, bank, answer in refused_sentences(self, 40, 10):
            truths = [n for n in range(1, len(bank) + 1)]
            steps = []
            for kind, clause, details in answer.paper:
                if chance.random() < 0.4:
                    clause = tuple(-literal if chance.random() < 0.5 else literal for literal in clause)
                if chance.random() < 0.2:
                    clause = clause + (chance.choice(truths) * chance.choice((1, -1)),)
                if chance.random() < 0.2 and kind == "resolve":
                    details = (details[0] + 5, details[1][::-1] + ((chance.choice(truths), 10 ** 20),))
                if chance.random() < 0.2 and kind in ("like", "part"):
                    details = chance.choice(truths) if kind == "part" else details[::-1]
                steps.append((kind, clause, details))
            self.check(bank, steps)
            bad += sum(not is_good_step(bank, steps, number) for number in range(len(steps)))
        self.assertGreater(bad, 100)

    def test_all_kinds(self):
        bank = new_bank()
        a, b, aa, ab, u, v, uv, most = (
            parse(bank, text) for text in ("a", "b", "(= a a)", "(= a b)", "(at b)", "(at a)", "(= (at a) (at b))", "(<= s 1/2)")
        )
        steps = [
            ("part", (1,), 1), ("same", (aa,), None), ("chain", tuple(sorted((aa, -ab), key=abs)), (a, (ab, ab))),
            ("like", tuple(sorted((uv, -ab), key=abs)), (u, v)), ("sum", (most,), ((1, 3),)), ("resolve", (aa,), (1, ())),
            ("chain", (), (b, ())), ("like", (most,), (most, 2)),
        ]
        self.check(bank, steps)
        self.assertEqual([is_good_step(bank, steps, number) for number in range(8)], [True] * 4 + [False, True, False, False])


if __name__ == "__main__":
    unittest.main()
