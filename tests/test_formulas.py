"""Formulas of books."""

import random
import unittest

from drawing import drawn_books, nodes_of
from helping import error_of, program_of
from metorshut.books import book_of
from metorshut.bounds import BOUNDS
from metorshut.formulas import formula_of
from metorshut.leaves import leaves_of
from metorshut.programs import declared
from metorshut.sheets import judge_sheet
from metorshut.treeruns import run_tree
from metorshut.values import value_of
from metorshut.words import all_words
from plainbook import loose_book


class FormulaTest(unittest.TestCase):
    def check(self, program, unit, bounds, book):
        """The ends of a formula that holds for all runs."""
        word, widths, nodes, ends, which, term = formula_of(program, book)
        self.assertEqual((word, widths), ("formula", tuple(kind for _, kind in declared(program, unit)[2])))
        self.assertTrue(judge_sheet(nodes))
        told = []
        for _, _, _, outcome in leaves_of(program, book):
            end = outcome[:1] if outcome[0] == "returns" else outcome
            if end not in told:
                told.append(end)
        self.assertEqual(ends, tuple(told))
        returns = ("returns",) in ends
        self.assertEqual(nodes[term][1], declared(program, unit)[3] if returns else 1)
        room = 1
        while 1 << room < len(ends):
            room += 1
        self.assertEqual(nodes[which][1], room)
        for args in all_words(widths):
            outcome = run_tree(program, unit, args, (), bounds)[3]
            end = ends[value_of(nodes, args, which)]
            if outcome[0] == "returns":
                self.assertEqual((end, value_of(nodes, args, term)), (("returns",), outcome[1]))
            else:
                self.assertEqual((end, value_of(nodes, args, term)), (outcome, 0))
        return ends


class Formulas(FormulaTest):
    def test_drawn_programs(self):
        seen, most = set(), 0
        for seed, program, unit, bounds, book in drawn_books(0, 400, bits=(6, 8)):
            if any(node[0] == "ask" for node in nodes_of(book[4])):
                self.assertEqual(error_of(formula_of, program, book), ("HasAsks",))
                seen.add("asks")
                continue
            ends = self.check(program, unit, bounds, book)
            seen.update(end[0] for end in ends)
            most = max(most, len(ends))
        self.assertEqual(seen, {"returns", "raises", "endless", "cut", "asks"})
        self.assertGreater(most, 2)

    def test_other_right_books(self):
        for seed, program, unit, bounds, book in drawn_books(0, 120):
            if len(repr(book)) > 4000:
                continue
            loose = loose_book(random.Random(seed), program, unit, bounds)
            if not any(node[0] == "ask" for node in nodes_of(loose[4])):
                self.check(program, unit, bounds, loose)

    def formula(self, text, bounds=BOUNDS):
        program = program_of(text)
        book = book_of(program, "main", bounds)
        self.check(program, "main", bounds, book)
        return formula_of(program, book)

    def test_a_single_end(self):
        _, widths, nodes, ends, which, word = self.formula("entry function main ( ) : 3 { return 5#3 ; }")
        self.assertEqual((widths, ends), ((), (("returns",),)))
        self.assertEqual((nodes[which], nodes[word]), (("word", 1, 0), ("word", 3, 5)))
        _, _, nodes, ends, which, word = self.formula("entry function main ( x : 2 ) : 3 { raise ouch ; }")
        self.assertEqual(ends, (("raises", "ouch"),))
        self.assertEqual((nodes[which], nodes[word]), (("word", 1, 0), ("word", 1, 0)))

    def test_nothing_returns(self):
        text = "entry function main ( x : 2 ) : 8 { if x == 1#2 { while 1#1 { } } raise ouch ; }"
        _, _, nodes, ends, which, word = self.formula(text)
        self.assertEqual(ends, (("endless",), ("raises", "ouch")))
        self.assertEqual(nodes[word], ("word", 1, 0))
        self.assertEqual(nodes[which][1], 1)

    def test_ends_that_need_more_bits(self):
        for many in range(1, 18):
            parts = "".join(f"if x == {at}#8 {{ raise r{at} ; }} " for at in range(many - 1))
            text = "entry function main ( x : 8 ) : 2 { " + parts + "return 3#2 ; }"
            _, _, nodes, ends, which, _ = self.formula(text)
            self.assertEqual(len(ends), many)
            self.assertEqual(nodes[which][1], max(1, (many - 1).bit_length()))

    def test_equal_ends_are_one(self):
        text = ("entry function main ( x : 2 ) : 2 { if x == 0#2 { return 1#2 ; } if x == 1#2 { raise a ; } "
                "if x == 2#2 { return x ; } raise a ; }")
        self.assertEqual(self.formula(text)[3], (("returns",), ("raises", "a")))

    def test_cuts(self):
        text = "entry function main ( x : 2 ) : 2 { if x < 2#2 { return x ; } call x = main ( x ) ; return x ; }"
        self.assertEqual(self.formula(text, (32, 3, 0, 2))[3], (("returns",), ("cut", "depth")))
        self.assertEqual(self.formula(text, (4, 8, 0, 2))[3], (("returns",), ("cut", "steps")))

    def test_asks(self):
        ask = "external e ( ) : 1 needs 1#1 gives 1#1 ; entry function main ( x : 1 ) : 1 { "
        for body, told in (("call x = e ( ) ; }", ("HasAsks",)), ("if x { call e ( ) ; } }", ("HasAsks",)),
                           ("if x != x { call e ( ) ; } }", None)):
            program = program_of(ask + body)
            self.assertEqual(error_of(formula_of, program, book_of(program, "main")), told)
        # The bound of bits cuts it ahead of the ask.
        program = program_of(ask + "call x = e ( ) ; }")
        self.assertIsNone(error_of(formula_of, program, book_of(program, "main", (24, 4, 4, 1))))

    def test_an_ask_where_no_input_goes_counts(self):
        program = program_of("external e ( ) : 1 needs 1#1 gives 1#1 ; "
                             "entry function main ( x : 1 ) : 1 { if x & ~ x { call x = e ( ) ; } return 1#1 ; }")
        nodes = (("input", 1, 0), ("not", 1, 0), ("&", 1, 0, 1), ("word", 1, 1))
        end = ("end", ("returns", 3))
        ask = ("look", ("e", 0), 3, ("ask", "e", (), end), ("shut", ("clash", 1)))
        book = ("book", (1,), ("e", "main"), nodes, ("look", ("main", 0), 2, ask, end))
        self.assertEqual(error_of(formula_of, program, book), ("HasAsks",))


if __name__ == "__main__":
    unittest.main()
