"""Judging papers."""

import random
import unittest

from metorshut.papers import judge_paper
from metorshut.sheets import Sheet
from metorshut.solving import solve
from metorshut.values import values_of
from plainterms import Store, right_paper
from sheetmaking import all_rows, random_sheet
from spoiling import spoilt


class Papers(unittest.TestCase):
    """x and y of width 2; conditions: x == 1, y == 1, x + y == 1, the word 0, x < y."""

    def setUp(self):
        sheet = Sheet()
        x, y = sheet.unknown(2, 0), sheet.unknown(2, 1)
        one = sheet.word(2, 1)
        self.conditions = (
            sheet.place(("==", 1, x, one)), sheet.place(("==", 1, y, one)),
            sheet.place(("==", 1, sheet.place(("+", 2, x, y)), one)), sheet.word(1, 0), sheet.place(("<", 1, x, y)),
        )
        self.nodes = sheet.nodes

    def judged(self, paper, told, conditions=None, widths=(2, 2)):
        chosen = self.conditions if conditions is None else conditions
        self.assertIs(judge_paper((widths, self.nodes, chosen), paper), told, paper)

    def test_a_clash(self):
        self.judged(("clash", 3), True)
        for at in (0, 1, 2, 4, 5, -1, -2, 1000000, -1000000):
            self.judged(("clash", at), False)
        self.judged(("clash", 0), False, ())

    def test_splits(self):
        zero = ("clash", 0)
        right = ("split", 0, 0, zero, ("split", 0, 1, ("split", 1, 0, ("clash", 1), ("clash", 2)), zero))
        self.judged(right, True)
        for n, b in ((0, 2), (0, -1), (2, 0), (-1, 0), (1000000, 0), (1, 2)):
            self.judged(("split", n, b, ("clash", 3), ("clash", 3)), False)
        self.judged(("split", 1, 1, ("clash", 3), ("clash", 3)), True)
        # Exchanged sides.
        self.judged(("split", 0, 0, right[4], zero), False)
        self.judged((*right[:4], ("split", 0, 1, zero, right[4][3])), False)
        # A bit that is known already, on either side.
        again = ("split", 0, 0, ("clash", 3), ("clash", 3))
        self.judged(("split", 0, 0, again, ("clash", 3)), False)
        self.judged(("split", 0, 0, ("clash", 3), again), False)
        self.judged(("split", 0, 0, ("split", 0, 1, ("clash", 3), again), ("clash", 3)), False)
        self.judged(("split", 0, 0, ("split", 0, 1, ("clash", 3), ("clash", 3)), ("split", 0, 1, *again[3:])), True)
        # Both sides must be right.
        self.judged(("split", 0, 0, ("clash", 0), ("clash", 0)), False)
        self.judged(("split", 0, 0, ("clash", 1), ("clash", 3)), False)
        self.judged(("split", 0, 0, ("clash", 3), ("clash", 1)), False)

    def test_widths_are_those_of_the_question(self):
        self.judged(("split", 0, 2, ("clash", 3), ("clash", 3)), True, widths=(3, 2))
        self.judged(("split", 2, 0, ("clash", 3), ("clash", 3)), True, widths=(2, 2, 1))
        self.judged(("split", 0, 0, ("clash", 3), ("clash", 3)), False, widths=())

    def test_sums(self):
        right = ("sums", ((0, 1), (1, 1), (2, -1)))
        self.judged(right, True)
        self.judged(("sums", ((0, 3), (1, 7), (2, 1))), True)
        self.judged(("sums", ((0, 5), (1, -3), (2, 999999))), True)
        # A multiplier that is 0, modulo 4.
        self.judged(("sums", ((0, 4), (1, 4), (2, 4))), False)
        for rows in ((), ((0, 1),), ((0, 1), (1, 1)), ((0, 1), (1, 1), (2, 1)), ((0, 2), (1, 1), (2, -1))):
            self.judged(("sums", rows), False)
        for rows in (((1, 1), (0, 1), (2, -1)), ((0, 1), (1, 1), (1, 0), (2, -1)), ((0, 1), (0, 0), (1, 1), (2, -1))):
            self.judged(("sums", rows), False)
        for at in (5, 1000000, -1, -5):
            self.judged(("sums", ((0, 1), (1, 1), (2, -1), (at, 0))), False)
            self.judged(("sums", ((at, 0), (0, 1), (1, 1), (2, -1))), False)
        # Other conditions are no equal linear terms, even if none of them is needed.
        self.judged(("sums", ((0, 1), (1, 1), (2, -1), (3, 0))), False)
        self.judged(("sums", ((0, 1), (1, 1), (2, -1), (4, 0))), False)
        self.judged(right, False, self.conditions[:2])

    def test_sums_in_a_cube(self):
        right = ("sums", ((0, 1), (1, 1), (2, -1)))
        self.judged(("split", 0, 0, right, right), True)
        self.judged(("split", 0, 0, ("clash", 0), right), True)
        # What the cube knows does not count for sums.
        self.judged(("split", 0, 0, ("sums", ((0, 1),)), right), False)

    def test_sums_of_several_widths(self):
        nodes = (("input", 2, 0), ("input", 3, 1), ("word", 2, 1), ("word", 3, 1), ("==", 1, 0, 2), ("==", 1, 1, 3),
                 ("word", 2, 2), ("==", 1, 0, 6), ("&", 2, 0, 2), ("==", 1, 8, 0), ("!=", 1, 0, 2))
        question = ((2, 3), nodes, (4, 5, 7, 9, 10))
        self.assertIs(judge_paper(question, ("sums", ((0, 1), (2, -1)))), True)
        self.assertIs(judge_paper(question, ("sums", ((0, 1), (1, 0), (2, -1)))), False)
        self.assertIs(judge_paper(question, ("sums", ((0, 1), (2, -1), (3, 0)))), False)
        self.assertIs(judge_paper(question, ("sums", ((0, 1), (2, -1), (4, 0)))), False)

    def test_constants_on_both_sides(self):
        # x + 1 == x + y, x + 1 == x + 1, x + 1 == x + 3, and not (x + 1) == 1 - x.
        nodes = (("input", 2, 0), ("word", 2, 1), ("+", 2, 0, 1), ("==", 1, 2, 2), ("word", 2, 3), ("+", 2, 0, 4),
                 ("==", 1, 2, 5), ("==", 1, 5, 2), ("not", 2, 2), ("-", 2, 1, 0), ("==", 1, 8, 9))
        question = ((2,), nodes, (3, 6, 7, 10))
        for at, many, told in ((0, 1, False), (0, 3, False), (1, 1, True), (1, 2, False), (2, 1, True), (2, -1, True),
                               (3, 1, True), (3, 3, True), (3, 4, False)):
            self.assertIs(judge_paper(question, ("sums", ((at, many),))), told, (at, many))
        self.assertIs(judge_paper(question, ("sums", ((1, 1), (2, 1)))), False)
        self.assertIs(judge_paper(question, ("sums", ((1, 1), (2, -1)))), False)
        self.assertIs(judge_paper(question, ("sums", ((1, 2), (2, 1)))), True)

    def test_even_factors(self):
        # 2 * x == 1.
        nodes = (("input", 2, 0), ("word", 2, 2), ("*", 2, 0, 1), ("word", 2, 1), ("==", 1, 2, 3))
        question = ((2,), nodes, (4,))
        self.assertIs(judge_paper(question, ("sums", ((0, 2),))), True)
        self.assertIs(judge_paper(question, ("sums", ((0, 1),))), False)
        self.assertIs(judge_paper(question, ("sums", ((0, 4),))), False)

    def test_readings_make_a_clash(self):
        # x < y with x all ones, as far as it is known.
        self.judged(("split", 0, 1, ("clash", 3), ("clash", 4)), False)
        paper = ("split", 0, 1, ("clash", 3), ("split", 1, 1, ("clash", 4), ("clash", 3)))
        self.judged(paper, True)

    def test_spoilt_ones_against_a_plain_judge(self):
        taken, seen = 0, 0
        for seed in range(500):
            dice = random.Random(seed)
            widths, sheet, _ = random_sheet(seed, placed=0.4)
            tests = [at for at, node in enumerate(sheet.nodes) if node[1] == 1]
            conditions = tuple(dice.choice(tests) for _ in range(3)) if tests else (sheet.word(1, 0),)
            question = (widths, sheet.nodes, conditions)
            word, paper = solve(question)
            if word == "model":
                rows = tuple(sorted((at, dice.randint(-2, 2)) for at in dice.sample(range(len(conditions)), 1)))
                paper = dice.choice((("sums", rows), ("clash", 0), ("split", 0, 0, ("clash", 0), ("sums", rows))))
            terms = Store().expand(sheet.nodes)
            chosen = [terms[at] for at in conditions]
            for _ in range(6):
                told = right_paper(widths, chosen, paper)
                self.assertIs(judge_paper(question, paper), told, (seed, paper))
                if told:
                    # A right paper holds what it says.
                    for words in all_rows(widths):
                        values = values_of(sheet.nodes, words)
                        self.assertFalse(all(values[at] for at in conditions))
                taken += told
                seen += 1
                paper = spoilt(dice, paper)
        self.assertTrue(200 < taken < seen - 200)

    def test_nothing_is_changed_or_kept(self):
        right = ("sums", ((0, 1), (1, 1), (2, -1)))
        wrong = ("split", 0, 0, ("clash", 0), ("clash", 0))
        for _ in range(3):
            self.judged(wrong, False)
            self.judged(right, True)


if __name__ == "__main__":
    unittest.main()
