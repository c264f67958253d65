"""The forms of linear terms."""

import random
import unittest

from metorshut.forms import form_of
from metorshut.sheets import Sheet
from metorshut.values import value_of
from plainterms import Store, form
from sheetmaking import all_rows, random_sheet

X, Y, SEVEN = ("input", 4, 0), ("input", 4, 1), ("word", 4, 7)


class Forms(unittest.TestCase):
    def form(self, told, *nodes):
        """The form of the last node, behind x, y and the word 7."""
        self.assertEqual(form_of((X, Y, SEVEN, *nodes), 2 + len(nodes)), told, nodes)

    def test_words_and_inputs(self):
        self.form(((), 7))
        self.form((((0, 1),), 0), ("input", 4, 0))
        self.form((((5, 1),), 0), ("input", 4, 5))
        self.form(((), 0), ("word", 4, 0))

    def test_sums(self):
        self.form((((0, 1), (1, 1)), 0), ("+", 4, 0, 1))
        self.form((((0, 1), (1, 15)), 0), ("-", 4, 0, 1))
        self.form((((0, 2),), 0), ("+", 4, 0, 0))
        self.form(((), 0), ("-", 4, 0, 0))
        self.form((((0, 1),), 7), ("+", 4, 0, 2))
        self.form((((0, 1),), 7), ("+", 4, 2, 0))
        self.form((((0, 15),), 7), ("-", 4, 2, 0))
        self.form((((0, 1),), 9), ("-", 4, 0, 2))
        self.form(((), 14), ("+", 4, 2, 2))

    def test_neg_and_not(self):
        self.form((((0, 15),), 0), ("neg", 4, 0))
        self.form((((0, 15),), 15), ("not", 4, 0))
        self.form(((), 8), ("not", 4, 2))
        self.form(((), 9), ("neg", 4, 2))
        # -1 - (x + 7), and x again.
        self.form((((0, 15),), 8), ("+", 4, 0, 2), ("not", 4, 3))
        self.form((((0, 1),), 0), ("not", 4, 0), ("not", 4, 3))

    def test_times(self):
        self.form((((0, 7),), 0), ("*", 4, 0, 2))
        self.form((((0, 7),), 0), ("*", 4, 2, 0))
        self.form(((), 1), ("*", 4, 2, 2))
        self.form((((0, 7), (1, 9)), 1), ("-", 4, 0, 1), ("+", 4, 3, 2), ("*", 4, 2, 4))
        self.form(None, ("*", 4, 0, 1))
        self.form(None, ("*", 4, 0, 0))
        # A term that is always a word is no word node.
        self.form(None, ("+", 4, 2, 2), ("*", 4, 0, 3))
        self.form(None, ("+", 4, 2, 2), ("*", 4, 3, 0))

    def test_shifts(self):
        self.form((((0, 8),), 0), ("word", 2, 3), ("<<", 4, 0, 3))
        self.form(((), 0), ("word", 4, 4), ("<<", 4, 0, 3))
        self.form(((), 0), ("word", 8, 255), ("<<", 4, 0, 3))
        self.form(((), 14), ("word", 1, 1), ("<<", 4, 2, 3))
        self.form((((0, 4), (1, 4)), 0), ("+", 4, 0, 1), ("word", 2, 2), ("<<", 4, 3, 4))
        self.form(None, ("<<", 4, 0, 1))
        self.form(None, ("<<", 4, 2, 0))
        self.form(None, (">>", 4, 0, 2))
        self.form(None, ("word", 1, 0), (">>", 4, 0, 3))

    def test_factors_that_come_to_nought(self):
        self.form((((1, 1),), 0), ("+", 4, 0, 1), ("-", 4, 3, 0))
        self.form(((), 8), ("word", 4, 8), ("+", 4, 0, 0), ("*", 4, 3, 4), ("+", 4, 5, 3))

    def test_what_is_not_linear(self):
        for op in ("&", "|", "^", "div", "rem"):
            self.form(None, (op, 4, 0, 1))
            self.form(None, (op, 4, 0, 2))
        for op in ("==", "!=", "<", "<="):
            self.form(None, (op, 1, 0, 1))
        self.form(None, ("wide", 4, 0))
        self.form(None, ("wide", 5, 0))
        self.form(None, ("==", 1, 0, 1), ("pick", 4, 3, 0, 1))
        # What stands in a term counts, too.
        self.form(None, ("&", 4, 0, 1), ("+", 4, 3, 0))
        self.form(None, ("&", 4, 0, 1), ("neg", 4, 3))
        self.form(None, ("&", 4, 0, 1), ("not", 4, 3))
        self.form(None, ("&", 4, 0, 1), ("-", 4, 0, 3))
        self.form(None, ("&", 4, 0, 1), ("*", 4, 3, 2))
        self.form(None, ("&", 4, 0, 1), ("*", 4, 2, 3))
        self.form(None, ("&", 4, 0, 1), ("<<", 4, 3, 2))

    def test_width_1(self):
        self.assertEqual(form_of((("input", 1, 0), ("not", 1, 0)), 1), (((0, 1),), 1))
        self.assertEqual(form_of((("input", 1, 0), ("word", 1, 1), ("-", 1, 1, 0)), 2), (((0, 1),), 1))

    def test_other_nodes_do_not_matter(self):
        nodes = (X, Y, ("*", 4, 0, 1), ("neg", 4, 1))
        self.assertEqual(form_of(nodes, 3), (((1, 15),), 0))

    def test_random_sheets(self):
        linear = 0
        for seed in range(200):
            widths, sheet, _ = random_sheet(seed, placed=0.6)
            terms = Store().expand(sheet.nodes)
            for at, node in enumerate(sheet.nodes):
                found, told = form_of(sheet.nodes, at), form(terms[at])
                if told is None:
                    self.assertIsNone(found)
                    continue
                linear += 1
                factors = tuple(sorted((number, factor) for number, factor in told[0].items() if factor))
                self.assertEqual(found, (factors, told[1]))
                for words in all_rows(widths)[::7]:
                    total = found[1] + sum(factor * words[number] for number, factor in found[0])
                    self.assertEqual(total % (1 << node[1]), value_of(sheet.nodes, words, at))
        self.assertGreater(linear, 1000)

    def test_long_chains(self):
        sheet = Sheet()
        term = x = sheet.unknown(8, 0)
        for _ in range(600):
            term = sheet.place(("+", 8, term, x))
        self.assertEqual(form_of(sheet.nodes, term), (((0, 601 % 256),), 0))
        self.assertEqual(value_of(sheet.nodes, (3,), term), 601 * 3 % 256)


class LinearSums(unittest.TestCase):
    def test_random_linear_terms(self):
        dice = random.Random(5)
        for _ in range(200):
            sheet = Sheet((X, Y, SEVEN))
            term = 0
            for _ in range(6):
                op = dice.choice(("+", "-", "neg", "not", "*", "<<"))
                if op in ("neg", "not"):
                    term = sheet.place((op, 4, term))
                elif op in ("+", "-"):
                    pair = dice.sample((term, dice.choice((0, 1, 2))), 2)
                    term = sheet.place((op, 4, *pair))
                else:
                    word = sheet.word(4, dice.randrange(16))
                    term = sheet.place((op, 4, term, word))
            factors, constant = form_of(sheet.nodes, term)
            self.assertTrue(all(0 < factor < 16 for _, factor in factors))
            for words in ((0, 0), (1, 0), (0, 1), (9, 14), (15, 15)):
                total = constant + sum(factor * words[number] for number, factor in factors)
                self.assertEqual(total % 16, value_of(sheet.nodes, words, term))


if __name__ == "__main__":
    unittest.main()
