"""The values of terms."""

import unittest

from metorshut.values import value_of, values_of
from metorshut.words import result
from plainterms import Store, value
from sheetmaking import all_rows, random_sheet

WORDS = ("+", "-", "*", "&", "|", "^", "<<", ">>", "div", "rem")
RELATIONS = ("==", "!=", "<", "<=")


class Values(unittest.TestCase):
    def value(self, nodes, words, told):
        """The value of the last term."""
        self.assertEqual(value_of(nodes, words, len(nodes) - 1), told, nodes)
        self.assertEqual(values_of(nodes, words)[-1], told, nodes)

    def test_each_operation(self):
        x, y = ("input", 3, 0), ("input", 3, 1)
        for l, r in all_rows((3, 3)):
            for op in WORDS:
                self.value((x, y, (op, 3, 0, 1)), (l, r), result(op, 3, l, r))
            for op in RELATIONS:
                self.value((x, y, (op, 1, 0, 1)), (l, r), result(op, 3, l, r))
        for l in range(8):
            self.value((x, ("not", 3, 0)), (l,), 7 - l)
            self.value((x, ("neg", 3, 0)), (l,), -l % 8)
            self.value((x, ("wide", 2, 0)), (l,), l % 4)
            self.value((x, ("wide", 5, 0)), (l,), l)
            for c in (0, 1):
                self.value((x, ("input", 1, 1), ("word", 3, 5), ("pick", 3, 1, 0, 2)), (l, c), l if c else 5)

    def test_operands_in_their_order(self):
        nodes = (("word", 4, 9), ("word", 4, 4), ("-", 4, 0, 1), ("-", 4, 1, 0), ("<", 1, 1, 0), ("<", 1, 0, 1),
                 ("div", 4, 0, 1), ("rem", 4, 0, 1))
        self.assertEqual(values_of(nodes, ()), (9, 4, 5, 11, 1, 0, 2, 1))

    def test_shifts_by_another_width(self):
        nodes = (("input", 8, 0), ("input", 2, 1), ("<<", 8, 0, 1), (">>", 8, 0, 1), ("<<", 2, 1, 0), (">>", 2, 1, 0))
        self.assertEqual(values_of(nodes, (129, 3)), (129, 3, 8, 16, 0, 0))
        self.assertEqual(values_of(nodes, (1, 3)), (1, 3, 8, 0, 2, 1))

    def test_inputs_without_a_word(self):
        nodes = (("input", 3, 0), ("input", 3, 2), ("+", 3, 0, 1))
        self.assertEqual(values_of(nodes, (5, 6)), (5, 0, 5))
        self.assertEqual(values_of(nodes, ()), (0, 0, 0))
        self.value(nodes, (), 0)

    def test_words_wider_than_the_input(self):
        nodes = (("input", 3, 0), ("input", 8, 0), ("input", 1, 0))
        self.assertEqual(values_of(nodes, (13,)), (5, 13, 1))
        self.value((("input", 2, 1),), (0, 255), 3)

    def test_words(self):
        self.assertEqual(values_of((("word", 8, 255), ("word", 1, 0)), (1, 2)), (255, 0))
        self.assertEqual(values_of((), (1,)), ())

    def test_random_sheets(self):
        for seed in range(150):
            widths, sheet, _ = random_sheet(seed, placed=0.8)
            terms = Store().expand(sheet.nodes)
            for words in all_rows(widths)[:: 1 + seed % 5]:
                told = tuple(value(term, words) for term in terms)
                self.assertEqual(values_of(sheet.nodes, words), told)
                for at in range(0, len(terms), 5):
                    self.assertEqual(value_of(sheet.nodes, words, at), told[at])


if __name__ == "__main__":
    unittest.main()
