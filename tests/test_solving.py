"""Models of questions, and papers where there are none."""

import random
import time
import unittest

from helping import error_of
from metorshut.papers import judge_paper
from metorshut.sheets import Sheet
from metorshut.solving import solve
from metorshut.values import values_of
from plainterms import Store, right_paper
from sheetmaking import all_rows, random_sheet


def clashes_in(paper):
    if paper[0] == "split":
        return clashes_in(paper[3]) + clashes_in(paper[4])
    return 1


class Solving(unittest.TestCase):
    def paper(self, widths, sheet, *conditions):
        """The right paper that is found."""
        question = (widths, sheet.nodes, conditions)
        word, paper = solve(question)
        self.assertEqual(word, "paper")
        self.assertTrue(judge_paper(question, paper))
        return paper

    def test_against_a_search(self):
        papers = 0
        for seed in range(500):
            dice = random.Random(seed)
            widths, sheet, _ = random_sheet(seed, placed=0.4)
            tests = [at for at, node in enumerate(sheet.nodes) if node[1] == 1] or [sheet.word(1, seed % 2)]
            conditions = tuple(dice.choice(tests) for _ in range(dice.randrange(5)))
            question = (widths, sheet.nodes, conditions)
            models = []
            for words in all_rows(widths):
                values = values_of(sheet.nodes, words)
                if all(values[at] for at in conditions):
                    models.append(words)
            word, found = solve(question)
            if models:
                self.assertEqual((word, found), ("model", models[0]), seed)
            else:
                papers += 1
                self.assertEqual(word, "paper")
                self.assertTrue(judge_paper(question, found), seed)
                terms = Store().expand(sheet.nodes)
                self.assertTrue(right_paper(widths, [terms[at] for at in conditions], found), seed)
        self.assertGreater(papers, 100)

    def test_no_bits(self):
        sheet = Sheet()
        one, zero = sheet.word(1, 1), sheet.word(1, 0)
        self.assertEqual(solve(((), sheet.nodes, (one,))), ("model", ()))
        self.assertEqual(solve(((), sheet.nodes, ())), ("model", ()))
        self.assertEqual(solve(((), (), ())), ("model", ()))
        self.assertEqual(self.paper((), sheet, one, zero), ("clash", 1))

    def test_no_conditions(self):
        self.assertEqual(solve(((3, 8, 1), (), ())), ("model", (0, 0, 0)))
        self.assertEqual(solve(((1,) * 12, (), ())), ("model", (0,) * 12))

    def test_inputs_that_no_condition_reaches(self):
        sheet = Sheet()
        y = sheet.unknown(3, 1)
        sheet.unknown(2, 7)
        more = sheet.make("<", 1, sheet.word(3, 5), y)
        self.assertEqual(solve(((4, 3, 5), sheet.nodes, (more,))), ("model", (0, 6, 0)))
        paper = self.paper((4, 3, 5), sheet, more, sheet.make("<", 1, y, sheet.word(3, 3)))
        self.assertNotIn("'split', 0", repr(paper))
        self.assertNotIn("'split', 2", repr(paper))

    def test_the_first_input_counts_most(self):
        sheet = Sheet()
        x, y = sheet.unknown(2, 0), sheet.unknown(3, 1)
        total = sheet.make("+", 3, sheet.make("wide", 3, x), y)
        seven = sheet.make("==", 1, total, sheet.word(3, 7))
        self.assertEqual(solve(((2, 3), sheet.nodes, (seven,))), ("model", (0, 7)))
        few = sheet.make("<", 1, y, sheet.word(3, 6))
        self.assertEqual(solve(((2, 3), sheet.nodes, (seven, few))), ("model", (2, 5)))

    def test_too_many_bits(self):
        for widths in ((8, 5), (1,) * 13, (8, 8), (8, 8, 8, 8)):
            self.assertEqual(error_of(solve, (widths, (), ())), ("TooMany", "bits"))
            self.assertEqual(error_of(solve, (widths, (("word", 1, 0),), (0,))), ("TooMany", "bits"))
        for widths in ((8, 4), (1,) * 12, (4, 4, 4)):
            self.assertEqual(solve((widths, (), ())), ("model", (0,) * len(widths)))

    def test_models_of_12_bits(self):
        sheet = Sheet()
        x, y = sheet.unknown(6, 0), sheet.unknown(6, 1)
        product = sheet.make("*", 6, x, y)
        conditions = (sheet.make("==", 1, product, sheet.word(6, 35)), sheet.make("<", 1, y, x),
                      sheet.make("<", 1, sheet.word(6, 1), y))
        models = [(a, b) for a in range(64) for b in range(2, a) if a * b % 64 == 35]
        self.assertEqual(solve(((6, 6), sheet.nodes, conditions)), ("model", models[0]))
        high = sheet.make("<", 1, sheet.word(6, 40), x)
        models = [pair for pair in models if pair[0] > 40]
        self.assertEqual(solve(((6, 6), sheet.nodes, (*conditions, high))), ("model", models[0]))
        ones = tuple(sheet.unknown(1, at) for at in range(12))
        last = solve(((1,) * 12, sheet.nodes, ones))
        self.assertEqual(last, ("model", (1,) * 12))

    def test_questions_of_12_bits_without_a_model_take_no_time(self):
        start = time.monotonic()
        sheet = Sheet()
        x, y = sheet.unknown(6, 0), sheet.unknown(6, 1)
        three = sheet.word(6, 3)
        product = sheet.make("*", 6, x, y)
        quotient = sheet.make("div", 6, x, y)
        self.paper((6, 6), sheet, sheet.make("<", 1, x, y), sheet.make("<", 1, y, x))
        self.paper((6, 6), sheet, sheet.make("==", 1, quotient, three), sheet.make("<", 1, x, y))
        square = sheet.make("==", 1, sheet.make("*", 6, x, x), sheet.word(6, 3))
        self.paper((6, 6), sheet, square, sheet.make("==", 1, product, y))
        rest = sheet.make("rem", 6, x, y)
        self.paper((6, 6), sheet, sheet.make("<=", 1, y, rest), sheet.make("not", 1, sheet.make(
            "==", 1, y, sheet.word(6, 0))))
        bits = [sheet.unknown(1, at) for at in range(12)]
        parity = bits[0]
        for bit in bits[1:]:
            parity = sheet.make("^", 1, parity, bit)
        turned = bits[11]
        for bit in bits[:11]:
            turned = sheet.make("^", 1, turned, bit)
        # No bit of the parity is known before all are: this paper has a clash for each of all words.
        paper = self.paper((1,) * 12, sheet, parity, sheet.make("not", 1, turned))
        self.assertEqual(clashes_in(paper), 4096)
        self.assertLess(time.monotonic() - start, 20)

    def test_questions_of_12_bits_drawn(self):
        dice = random.Random(12)
        found = 0
        start = time.monotonic()
        for _ in range(60):
            sheet = Sheet()
            widths = dice.choice(((6, 6), (4, 4, 4), (8, 4), (3, 3, 3, 3)))
            terms = [sheet.unknown(width, number) for number, width in enumerate(widths)]
            tests = []
            for _ in range(12):
                left = dice.choice(terms)
                width = sheet.nodes[left][1]
                same = [term for term in terms if sheet.nodes[term][1] == width]
                op = dice.choice(("+", "-", "*", "&", "^", "div", "rem", "<<"))
                terms.append(sheet.make(op, width, left, dice.choice(same)))
                other = dice.choice((sheet.word(width, dice.randrange(1 << width)), dice.choice(same)))
                tests.append(sheet.make(dice.choice(("==", "<", "!=")), 1, terms[-1], other))
            question = (widths, sheet.nodes, tuple(tests[-4:]))
            word, told = solve(question)
            if word == "paper":
                found += 1
                self.assertTrue(judge_paper(question, told))
        self.assertGreater(found, 10)
        self.assertLess(time.monotonic() - start, 60)


if __name__ == "__main__":
    unittest.main()
