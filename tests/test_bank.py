"""papersat/bank.py: points 11 to 15."""

import unittest

from papersat.bank import Bank, copy_term, subterms
from papersat.errors import BadNode, BadSort, PaperError, UnknownName
from papersat.signature import Signature
from tests.support import call, new_bank, new_signature

SORTS = ("truth", "whole", "ratio", "thing", "place")
OPS = (
    "true", "false", "not", "and", "or", "imply", "if", "equal", "distinct", "most", "less",
    "whole", "shift", "ratio", "sum", "scale", "call",
)
VALUES = {"whole": 5, "shift": -2, "ratio": (1, 2), "scale": (-2, 3)}


def nodes_of(bank):
    """All nodes of a bank with their sorts."""
    return [(node, bank.sort_of(number)) for number, node in enumerate(bank, 1)]


class BankTest(unittest.TestCase):
    def setUp(self):
        self.bank = new_bank()

    def assert_refused(self, error, attribute, value, op, node_value, parts):
        before = nodes_of(self.bank)
        passed = list(parts)
        with self.assertRaises(PaperError) as caught:
            self.bank.make(op, node_value, parts)
        self.assertIs(type(caught.exception), error)
        self.assertEqual(getattr(caught.exception, attribute), value)
        self.assertEqual(nodes_of(self.bank), before)
        self.assertEqual(list(parts), passed)


class MakingTest(BankTest):
    def test_first_nodes(self):
        self.assertEqual(list(self.bank), [("true", None, ()), ("false", None, ())])
        self.assertEqual(len(self.bank), 2)
        self.assertEqual(self.bank.make("true", None, []), 1)
        self.assertEqual(self.bank.make("false", None, ()), 2)
        self.assertEqual(len(self.bank), 2)

    def test_signature_is_kept_itself(self):
        signature = Signature()
        self.assertIs(Bank(signature).signature, signature)

    def test_every_op_with_right_parts(self):
        bank = self.bank
        p, x, y = call(bank, "p"), call(bank, "x"), call(bank, "y")
        s, t, a, b = call(bank, "s"), call(bank, "t"), call(bank, "a"), call(bank, "b")
        cases = [
            ("not", None, (p,), "truth"), ("and", None, (), "truth"), ("and", None, (p,), "truth"),
            ("and", None, (p, 1, 2, p), "truth"), ("or", None, (), "truth"), ("or", None, (p,), "truth"),
            ("or", None, (2, p, 1), "truth"), ("imply", None, (p, 2), "truth"), ("imply", None, (2, p), "truth"),
            ("if", None, (p, 1, 2), "truth"), ("if", None, (p, x, y), "whole"), ("if", None, (1, t, s), "ratio"),
            ("if", None, (2, b, a), "thing"), ("if", None, (p, p, p), "truth"),
            ("equal", None, (1, p), "truth"), ("equal", None, (x, y), "truth"), ("equal", None, (s, t), "truth"),
            ("equal", None, (a, b), "truth"), ("equal", None, (a, a), "truth"),
            ("distinct", None, (p, 1), "truth"), ("distinct", None, (y, x, y), "truth"),
            ("distinct", None, (s, t), "truth"), ("distinct", None, (a, b, a, b), "truth"),
            ("distinct", None, (b, a), "truth"), ("most", None, (x, y), "truth"), ("most", None, (y, x), "truth"),
            ("most", None, (s, t), "truth"), ("most", None, (t, t), "truth"), ("less", None, (y, x), "truth"),
            ("less", None, (s, t), "truth"), ("whole", 0, (), "whole"), ("whole", 7, (), "whole"),
            ("whole", -7, (), "whole"), ("shift", 0, (x,), "whole"), ("shift", -4, (x,), "whole"),
            ("ratio", (0, 1), (), "ratio"), ("ratio", (-7, 3), (), "ratio"), ("sum", None, (s, t), "ratio"),
            ("sum", None, (t, s, t), "ratio"), ("scale", (0, 1), (s,), "ratio"), ("scale", (-1, 2), (s,), "ratio"),
            ("call", "x", (), "whole"), ("call", "f", (x,), "whole"), ("call", "g", (s, x), "ratio"),
            ("call", "h", (b, a), "thing"), ("call", "is_old", (a,), "truth"), ("call", "at", (b,), "place"),
        ]
        for op, value, parts, sort in cases:
            for shape in (list, tuple):
                number = bank.make(op, value, shape(parts))
                self.assertEqual(bank.node(number), (op, value, parts))
                self.assertEqual(bank.sort_of(number), sort)
                self.assertEqual(bank.seek(op, value, shape(parts)), number)
                self.assertEqual(bank.make(op, value, shape(parts)), number)

    def test_numbers_in_order(self):
        made = [call(self.bank, name) for name in ("x", "y", "p", "a", "x")]
        self.assertEqual(made, [3, 4, 5, 6, 3])
        self.assertEqual(self.bank.make("equal", None, [4, 3]), 7)
        self.assertEqual(len(self.bank), 7)
        self.assertEqual(len(set(self.bank)), 7)

    def test_parts_are_lesser_and_tuples(self):
        x = call(self.bank, "x")
        node = self.bank.make("and", None, [self.bank.make("most", None, [x, x]), 1])
        for number, (_, _, parts) in enumerate(self.bank, 1):
            self.assertIs(type(parts), tuple)
            self.assertTrue(all(part < number for part in parts))
        self.assertEqual(node, len(self.bank))

    def test_equal_sorts_its_parts(self):
        x, y = call(self.bank, "x"), call(self.bank, "y")
        number = self.bank.make("equal", None, [y, x])
        self.assertEqual(self.bank.node(number), ("equal", None, (x, y)))
        self.assertEqual(self.bank.make("equal", None, (x, y)), number)
        self.assertEqual(self.bank.seek("equal", None, [y, x]), number)
        self.assertEqual(self.bank.seek("equal", None, (x, y)), number)

    def test_the_others_keep_their_order(self):
        bank = self.bank
        x, y, p = call(bank, "x"), call(bank, "y"), call(bank, "p")
        for op in ("distinct", "most", "less"):
            one, other = bank.make(op, None, [x, y]), bank.make(op, None, [y, x])
            self.assertNotEqual(one, other)
            self.assertEqual(bank.node(other), (op, None, (y, x)))
            self.assertEqual(bank.seek(op, None, [y, x]), other)
        for op in ("and", "or", "imply"):
            other = bank.make(op, None, [p, 1])
            self.assertEqual(bank.node(other), (op, None, (p, 1)))
            self.assertEqual(bank.seek(op, None, [1, p]), 0)

    def test_nothing_is_simplified(self):
        bank = self.bank
        x, s = call(bank, "x"), call(bank, "s")
        for op, value, parts in (
            ("and", None, (1,)), ("or", None, (1, 1)), ("not", None, (2,)), ("shift", 0, (x,)),
            ("scale", (1, 1), (s,)), ("if", None, (1, x, x)), ("equal", None, (1, 1)), ("sum", None, (s, s)),
        ):
            self.assertEqual(bank.node(bank.make(op, value, parts)), (op, value, parts))
        self.assertEqual(bank.node(bank.make("shift", 2, [bank.make("shift", 3, [x])]))[1], 2)

    def test_lists_that_are_changed_afterwards(self):
        x, y = call(self.bank, "x"), call(self.bank, "y")
        for op in ("most", "equal"):
            parts = [y, x]
            number = self.bank.make(op, None, parts)
            self.assertEqual(parts, [y, x])
            kept = self.bank.node(number)
            parts[0] = x
            self.assertEqual(self.bank.node(number), kept)
            self.bank.seek(op, None, parts)
            self.assertEqual(parts, [x, x])

    def test_functions_declared_later(self):
        signature = Signature()
        bank = Bank(signature)
        with self.assertRaises(UnknownName):
            bank.make("call", "late", [])
        signature.declare_sort("thing")
        signature.declare_function("late", [], "thing")
        self.assertEqual(bank.make("call", "late", []), 3)
        self.assertEqual(bank.sort_of(3), "thing")

    def test_many_nodes_parts_and_arguments(self):
        signature = new_signature()
        signature.declare_function("wide", ["whole"] * 7, "whole")
        bank = Bank(signature)
        numbers = [bank.make("whole", number, []) for number in range(5000)]
        self.assertEqual(len(bank), 5002)
        self.assertEqual(bank.node(bank.make("distinct", None, numbers[:50]))[2], tuple(numbers[:50]))
        self.assertEqual(bank.sort_of(bank.make("call", "wide", numbers[:7])), "whole")


class RefusingTest(BankTest):
    def test_unknown_op(self):
        for op in ("", "=", "+", "nand", "TRUE", "truth", "ask", "Call", "if "):
            self.assert_refused(BadSort, "op", op, op, None, [])
            self.assert_refused(BadSort, "op", op, op, "no", [99])

    def test_unknown_function(self):
        for name in ("no", "thing", "truth", "", "and", "F"):
            self.assert_refused(UnknownName, "name", name, "call", name, [])
            self.assert_refused(UnknownName, "name", name, "call", name, [0, 99])

    def test_parts_that_are_no_nodes(self):
        x = call(self.bank, "x")
        for part in (0, -1, -3, x + 1, 10 ** 30):
            for op in OPS:
                value = "x" if op == "call" else VALUES.get(op)
                self.assert_refused(BadNode, "number", part, op, value, [part])
                self.assert_refused(BadNode, "number", part, op, value, (x, part, -77))

    def test_first_wrong_part_as_passed(self):
        self.assert_refused(BadNode, "number", 99, "equal", None, [99, 0])
        self.assert_refused(BadNode, "number", 0, "equal", None, [0, 99])
        self.assert_refused(BadNode, "number", 50, "most", None, [1, 50])

    def test_missing_node_comes_before_wrong_sort(self):
        self.assert_refused(BadNode, "number", 9, "true", None, [9])
        self.assert_refused(BadNode, "number", 9, "call", "x", [9])
        self.assert_refused(BadNode, "number", 9, "not", None, [1, 2, 9])

    def test_wrong_counts(self):
        bank = self.bank
        x, s, p = call(bank, "x"), call(bank, "s"), call(bank, "p")
        for op, value, parts in (
            ("true", None, (1,)), ("false", None, (2,)), ("not", None, ()), ("not", None, (p, p)),
            ("imply", None, ()), ("imply", None, (p,)), ("imply", None, (p, p, p)),
            ("if", None, ()), ("if", None, (p,)), ("if", None, (p, x)), ("if", None, (p, x, x, x)),
            ("equal", None, ()), ("equal", None, (x,)), ("equal", None, (x, x, x)),
            ("distinct", None, ()), ("distinct", None, (x,)),
            ("most", None, ()), ("most", None, (x,)), ("most", None, (x, x, x)),
            ("less", None, ()), ("less", None, (s,)), ("less", None, (s, s, s)),
            ("whole", 5, (x,)), ("ratio", (1, 2), (s,)), ("shift", 1, ()), ("shift", 1, (x, x)),
            ("sum", None, ()), ("sum", None, (s,)), ("scale", (1, 2), ()), ("scale", (1, 2), (s, s)),
            ("call", "x", (x,)), ("call", "f", ()), ("call", "f", (x, x)), ("call", "g", (s,)),
        ):
            self.assert_refused(BadSort, "op", op, op, value, parts)

    def test_every_op_with_every_pair_of_sorts(self):
        bank = self.bank
        by_sort = [call(bank, name) for name in ("p", "x", "s", "a", "home")]
        good = {
            "and": {("truth", "truth")}, "or": {("truth", "truth")}, "imply": {("truth", "truth")},
            "equal": {(sort, sort) for sort in SORTS}, "distinct": {(sort, sort) for sort in SORTS},
            "most": {("whole", "whole"), ("ratio", "ratio")}, "less": {("whole", "whole"), ("ratio", "ratio")},
            "sum": {("ratio", "ratio")}, "g": {("ratio", "whole")}, "h": {("thing", "thing")},
        }
        for op in [*OPS, "g", "h"]:
            real, value = ("call", op) if op in ("g", "h") else (op, VALUES.get(op, "x" if op == "call" else None))
            for one in by_sort:
                for other in by_sort:
                    sorts = (bank.sort_of(one), bank.sort_of(other))
                    if sorts in good.get(op, ()):
                        self.assertTrue(bank.has(bank.make(real, value, (one, other))), (op, sorts))
                    else:
                        self.assert_refused(BadSort, "op", real, real, value, (one, other))

    def test_every_op_with_one_part_of_each_sort(self):
        bank = self.bank
        good = {
            "not": {"truth"}, "and": {"truth"}, "or": {"truth"}, "shift": {"whole"}, "scale": {"ratio"},
            "f": {"whole"}, "is_old": {"thing"}, "at": {"thing"},
        }
        for op in [*OPS, "f", "is_old", "at"]:
            real, value = (op, VALUES.get(op, "x" if op == "call" else None)) if op in OPS else ("call", op)
            for name in ("p", "x", "s", "a", "home"):
                part = call(bank, name)
                if bank.sort_of(part) in good.get(op, ()):
                    self.assertTrue(bank.has(bank.make(real, value, [part])))
                else:
                    self.assert_refused(BadSort, "op", real, real, value, [part])

    def test_if_with_every_three_sorts(self):
        bank = self.bank
        by_sort = [call(bank, name) for name in ("p", "x", "s", "a", "home")]
        for first in by_sort:
            for second in by_sort:
                for third in by_sort:
                    if first == by_sort[0] and second == third:
                        number = bank.make("if", None, [first, second, third])
                        self.assertEqual(bank.sort_of(number), bank.sort_of(second))
                    else:
                        self.assert_refused(BadSort, "op", "if", "if", None, [first, second, third])

    def test_one_wrong_sort_among_many(self):
        bank = self.bank
        p, s, x = call(bank, "p"), call(bank, "s"), call(bank, "x")
        for place in range(4):
            for op, fine in (("and", p), ("or", p), ("sum", s), ("distinct", s)):
                parts = [fine] * 4
                parts[place] = x
                self.assert_refused(BadSort, "op", op, op, None, parts)


class SeekingTest(BankTest):
    def test_nothing_is_added_or_raised(self):
        x = call(self.bank, "x")
        count = len(self.bank)
        for op, value, parts in (
            ("nand", None, [x]), ("", None, []), ("call", "no", []), ("call", "y", []), ("not", None, [99]),
            ("not", None, [x]), ("equal", None, [x, 99]), ("equal", None, [x]), ("equal", None, []),
            ("equal", None, [3, 2, 1]), ("equal", None, [-1, 0]), ("whole", 5, []), ("true", None, [x]),
            ("shift", 5, [x]), ("ratio", (1, 2), ()), ("most", None, (x, x)), ("call", "x", [x]),
        ):
            self.assertEqual(self.bank.seek(op, value, parts), 0, op)
        self.assertEqual(len(self.bank), count)

    def test_found(self):
        self.assertEqual(self.bank.seek("true", None, []), 1)
        self.assertEqual(self.bank.seek("false", None, ()), 2)
        self.assertEqual(self.bank.seek("whole", 5, []), 0)
        five = self.bank.make("whole", 5, [])
        self.assertEqual(self.bank.seek("whole", 5, []), five)
        self.assertEqual(self.bank.seek("whole", -5, []), 0)
        self.assertEqual(self.bank.seek("shift", 5, []), 0)


class LookingTest(BankTest):
    def test_wrong_numbers(self):
        call(self.bank, "x")
        for number in (0, -1, -3, 4, 1000, 10 ** 30, -10 ** 30):
            self.assertIs(self.bank.has(number), False)
            for look in (self.bank.node, self.bank.sort_of):
                with self.assertRaises(BadNode) as caught:
                    look(number)
                self.assertEqual(caught.exception.number, number)

    def test_right_numbers(self):
        call(self.bank, "x")
        for number in (1, 2, 3):
            self.assertIs(self.bank.has(number), True)
        self.assertEqual([self.bank.sort_of(number) for number in (1, 2, 3)], ["truth", "truth", "whole"])
        self.assertEqual(self.bank.node(3), ("call", "x", ()))

    def test_iterating(self):
        call(self.bank, "x")
        wanted = [("true", None, ()), ("false", None, ()), ("call", "x", ())]
        self.assertEqual([node for node in self.bank], wanted)
        self.assertEqual(list(self.bank), wanted)
        self.assertEqual(len(self.bank), 3)
        list(self.bank).clear()
        self.assertEqual(len(self.bank), 3)

    def test_example_of_the_document(self):
        signature = Signature()
        signature.declare_function("x", [], "whole")
        bank = Bank(signature)
        x = bank.make("call", "x", [])
        five = bank.make("whole", 5, [])
        found = [x, five, bank.make("most", None, [five, x]), bank.node(5), len(bank)]
        self.assertEqual(found, [3, 4, 5, ("most", None, (4, 3)), 5])


class SubtermsTest(BankTest):
    def test_subterms(self):
        bank = self.bank
        x, y, s = call(bank, "x"), call(bank, "y"), call(bank, "s")
        g = call(bank, "g", s, bank.make("shift", 1, [x]))
        equal = bank.make("equal", None, [g, s])
        shift = bank.seek("shift", 1, [x])
        self.assertEqual(subterms(bank, [equal]), [x, s, shift, g, equal])
        self.assertEqual(subterms(bank, (equal, y, equal, x)), [x, y, s, shift, g, equal])
        self.assertEqual(subterms(bank, [y]), [y])
        self.assertEqual(subterms(bank, []), [])
        self.assertEqual(subterms(bank, ()), [])

    def test_list_stays_and_result_is_new(self):
        bank = self.bank
        nodes = [bank.make("not", None, [2]), 1]
        before = list(nodes)
        found = subterms(bank, nodes)
        self.assertIs(type(found), list)
        found.append(7)
        self.assertEqual(nodes, before)
        self.assertEqual(subterms(bank, nodes), [1, 2, 3])
        self.assertEqual(len(bank), 3)

    def test_shared_and_deep(self):
        node = 1
        for _ in range(1500):
            node = self.bank.make("and", None, [node, node])
        self.assertEqual(len(subterms(self.bank, [node])), 1501)
        self.assertEqual(copy_term(self.bank, node, new_bank()), 1502)


class CopyTest(BankTest):
    def term(self, bank):
        x, s = call(bank, "x"), call(bank, "s")
        g = call(bank, "g", bank.make("ratio", (1, 2), []), bank.make("shift", 1, [x]))
        least = bank.make("most", None, [g, s])
        return bank.make("imply", None, [bank.make("equal", None, [s, g]), least])

    def test_to_another_bank(self):
        node = self.term(self.bank)
        other = new_bank()
        copy = copy_term(self.bank, node, other)
        self.assertEqual(copy, self.term(other))
        self.assertEqual(copy, len(other))
        self.assertEqual(len(other), len(self.bank))
        again = copy_term(self.bank, node, other)
        self.assertEqual(again, copy)
        self.assertEqual(len(other), len(self.bank))

    def test_made_in_ascending_order(self):
        call(self.bank, "z")
        node = self.term(self.bank)
        other = new_bank()
        copy_term(self.bank, node, other)
        numbers = subterms(self.bank, [node])
        ops = [self.bank.node(number)[:2] for number in numbers]
        self.assertEqual([made[:2] for made in list(other)[2:]], ops)
        self.assertEqual(other.seek("call", "z", []), 0)

    def test_equal_in_another_order(self):
        x, y = call(self.bank, "x"), call(self.bank, "y")
        equal = self.bank.make("equal", None, [x, y])
        other = new_bank()
        second, first = call(other, "y"), call(other, "x")
        copy = copy_term(self.bank, equal, other)
        self.assertEqual(other.node(copy), ("equal", None, (second, first)))

    def test_to_the_same_bank(self):
        node = self.term(self.bank)
        count = len(self.bank)
        self.assertEqual(copy_term(self.bank, node, self.bank), node)
        self.assertEqual(len(self.bank), count)

    def test_first_nodes(self):
        other = new_bank()
        self.assertEqual([copy_term(self.bank, 1, other), copy_term(self.bank, 2, other)], [1, 2])

    def test_function_is_not_there(self):
        node = self.term(self.bank)
        count = len(self.bank)
        signature = Signature()
        signature.declare_function("x", [], "whole")
        other = Bank(signature)
        with self.assertRaises(UnknownName) as caught:
            copy_term(self.bank, node, other)
        self.assertEqual(caught.exception.name, "s")
        self.assertEqual(list(other)[2:], [("call", "x", ())])
        self.assertEqual(len(self.bank), count)

    def test_function_with_other_sorts(self):
        node = call(self.bank, "f", call(self.bank, "x"))
        signature = Signature()
        signature.declare_function("x", [], "ratio")
        signature.declare_function("f", ["whole"], "whole")
        with self.assertRaises(BadSort) as caught:
            copy_term(self.bank, node, Bank(signature))
        self.assertEqual(caught.exception.op, "call")
        most = self.bank.make("shift", 1, [call(self.bank, "x")])
        with self.assertRaises(BadSort) as caught:
            copy_term(self.bank, most, Bank(signature))
        self.assertEqual(caught.exception.op, "shift")
