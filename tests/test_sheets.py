"""Sheets, and the rules by which terms are made."""

import random
import unittest

from metorshut.sheets import Sheet, judge_sheet
from metorshut.values import values_of
from metorshut.words import result
from plainbook import right_sheet
from plainterms import Store
from sheetmaking import all_rows, random_node, random_sheet
from spoiling import spoilt


class RuleTest(unittest.TestCase):
    """A sheet with two inputs x and y of width 4, p and q of width 1."""

    def setUp(self):
        self.sheet = Sheet()
        self.x, self.y = self.sheet.unknown(4, 0), self.sheet.unknown(4, 1)
        self.p, self.q = self.sheet.unknown(1, 2), self.sheet.unknown(1, 3)

    def word(self, value, width=4):
        return self.sheet.word(width, value)

    def node(self, op, width, *terms):
        """The node that was made."""
        made = self.sheet.make(op, width, *terms)
        return self.sheet.nodes[made]

    def is_word(self, value, op, *terms, width=4):
        self.assertEqual(self.node(op, width, *terms), ("word", width, value), (op, terms))

    def is_itself(self, op, *terms, width=4):
        self.assertEqual(self.node(op, width, *terms), (op, width, *terms))

    def sum(self, term, value):
        return self.sheet.make("+", 4, term, self.word(value))


class Rules(RuleTest):
    def test_1_words(self):
        w = self.word
        for op in ("+", "-", "*", "&", "|", "^", "<<", ">>", "div", "rem"):
            for l, r in ((13, 6), (6, 13), (5, 0), (0, 5), (3, 3), (15, 15)):
                self.is_word(result(op, 4, l, r), op, w(l), w(r))
        for op in ("==", "!=", "<", "<="):
            for l, r in ((13, 6), (6, 13), (3, 3)):
                self.is_word(result(op, 4, l, r), op, w(l), w(r), width=1)
        self.is_word(10, "not", w(5))
        self.is_word(11, "neg", w(5))
        self.is_word(5, "wide", w(13), width=3)
        self.is_word(13, "wide", w(13), width=7)
        self.is_word(5, "pick", w(1, 1), w(5), w(6))
        self.is_word(6, "pick", w(0, 1), w(5), w(6))
        self.is_word(8, "<<", w(1), w(3, 2))
        self.is_word(0, ">>", w(15), w(200, 8))

    def test_2_unequal(self):
        self.assertEqual(self.node("!=", 1, self.x, self.y), ("not", 1, self.sheet.make("==", 1, self.x, self.y)))
        # The `not` and the `==` have their own rules.
        self.is_word(0, "!=", self.x, self.x, width=1)
        self.assertEqual(self.sheet.make("!=", 1, self.p, self.word(0, 1)), self.p)

    def test_2_exchanged(self):
        w = self.word(6)
        for op in ("+", "*", "&", "|", "^"):
            self.assertEqual(self.node(op, 4, w, self.x), (op, 4, self.x, w))
        self.assertEqual(self.node("==", 1, w, self.x), ("==", 1, self.x, w))
        self.is_itself("-", w, self.x)
        for op in ("div", "rem", "<<", ">>"):
            self.is_itself(op, w, self.x)
        for op in ("<", "<="):
            self.is_itself(op, w, self.x, width=1)

    def test_2_less_a_word(self):
        self.assertEqual(self.node("-", 4, self.x, self.word(6)), ("+", 4, self.x, self.word(10)))
        self.assertEqual(self.sheet.make("-", 4, self.x, self.word(0)), self.x)
        self.assertEqual(self.sheet.make("-", 4, self.sum(self.x, 6), self.word(6)), self.x)

    def test_3_twice(self):
        for op in ("not", "neg"):
            once = self.sheet.make(op, 4, self.x)
            self.assertEqual(self.sheet.nodes[once], (op, 4, self.x))
            self.assertEqual(self.sheet.make(op, 4, once), self.x)
        self.is_itself("not", self.sheet.make("neg", 4, self.x))
        self.assertEqual(self.sheet.make("wide", 4, self.x), self.x)
        self.is_itself("wide", self.x, width=5)
        self.is_itself("wide", self.x, width=3)

    def test_4_pick(self):
        self.assertEqual(self.sheet.make("pick", 4, self.word(1, 1), self.x, self.y), self.x)
        self.assertEqual(self.sheet.make("pick", 4, self.word(0, 1), self.x, self.y), self.y)
        self.assertEqual(self.sheet.make("pick", 4, self.p, self.x, self.x), self.x)
        self.is_itself("pick", self.p, self.x, self.y)
        self.is_itself("pick", self.p, self.word(1), self.word(2))

    def test_5_plus(self):
        self.assertEqual(self.sheet.make("+", 4, self.x, self.word(0)), self.x)
        six = self.sum(self.x, 6)
        self.assertEqual(self.node("+", 4, six, self.word(7)), ("+", 4, self.x, self.word(13)))
        self.assertEqual(self.node("+", 4, six, self.word(12)), ("+", 4, self.x, self.word(2)))
        self.assertEqual(self.sheet.make("+", 4, six, self.word(10)), self.x)
        self.is_itself("+", six, self.y)

    def test_5_words_on_the_right(self):
        plain = [("*", 1), ("&", 15), ("|", 0), ("^", 0), ("<<", 0), (">>", 0), ("div", 1)]
        for op, value in plain:
            self.assertEqual(self.sheet.make(op, 4, self.x, self.word(value)), self.x, op)
        fixed = [("*", 0, 0), ("&", 0, 0), ("|", 15, 15), ("<<", 4, 0), (">>", 4, 0), ("<<", 15, 0), ("div", 0, 0),
                 ("rem", 0, 0), ("rem", 1, 0)]
        for op, value, told in fixed:
            self.is_word(told, op, self.x, self.word(value))
        self.is_word(0, "<<", self.x, self.word(8, 8))
        self.assertEqual(self.sheet.make(">>", 4, self.x, self.word(0, 1)), self.x)
        self.is_word(0, "<", self.x, self.word(0), width=1)
        self.is_word(1, "<=", self.x, self.word(15), width=1)
        for op, value in (("*", 2), ("&", 7), ("|", 7), ("^", 15), ("<<", 3), (">>", 3), ("div", 2), ("rem", 2)):
            self.is_itself(op, self.x, self.word(value))
        for op, value in (("<", 1), ("<", 15), ("<=", 14), ("<=", 0), ("==", 0), ("==", 15)):
            self.is_itself(op, self.x, self.word(value), width=1)

    def test_5_words_on_the_left_have_no_such_rule(self):
        for op, value in (("<<", 0), (">>", 0), ("div", 0), ("rem", 0), ("-", 0)):
            self.is_itself(op, self.word(value), self.x)
        for op, value in (("<", 15), ("<=", 0)):
            self.is_itself(op, self.word(value), self.x, width=1)

    def test_5_equal(self):
        self.assertEqual(self.sheet.make("==", 1, self.p, self.word(1, 1)), self.p)
        self.assertEqual(self.node("==", 1, self.p, self.word(0, 1)), ("not", 1, self.p))
        turned = self.sheet.make("not", 1, self.p)
        self.assertEqual(self.sheet.make("==", 1, turned, self.word(0, 1)), self.p)
        six = self.sum(self.x, 6)
        self.assertEqual(self.node("==", 1, six, self.word(4)), ("==", 1, self.x, self.word(14)))
        # Of width 1 the rule for width 1 goes ahead of that for sums.
        one = self.sheet.place(("+", 1, self.p, self.word(1, 1)))
        self.assertEqual(self.sheet.make("==", 1, one, self.word(1, 1)), one)
        self.assertEqual(self.node("==", 1, one, self.word(0, 1)), ("not", 1, one))

    def test_6_twins(self):
        for op, told in (("-", 0), ("^", 0)):
            self.is_word(told, op, self.x, self.x)
        for op, told in (("==", 1), ("<=", 1), ("<", 0)):
            self.is_word(told, op, self.x, self.x, width=1)
        for op in ("&", "|"):
            self.assertEqual(self.sheet.make(op, 4, self.x, self.x), self.x)
        for op in ("+", "*", "div", "rem", "<<", ">>"):
            self.is_itself(op, self.x, self.x)

    def test_7_bases(self):
        six, nine = self.sum(self.x, 6), self.sum(self.x, 9)
        self.is_word(3, "-", nine, six)
        self.is_word(13, "-", six, nine)
        self.is_word(6, "-", six, self.x)
        self.is_word(10, "-", self.x, six)
        self.is_word(0, "==", six, nine, width=1)
        self.is_word(0, "==", self.x, nine, width=1)
        again = self.sheet.place(("+", 4, self.x, self.sheet.word(4, 6)))
        self.is_word(1, "==", six, again, width=1)
        other = self.sum(self.y, 6)
        self.is_itself("-", six, other)
        self.is_itself("==", six, other, width=1)
        for op in ("<", "<="):
            self.is_itself(op, six, nine, width=1)
        self.is_itself("^", six, nine)

    def test_7_a_sum_of_no_rest_that_was_placed(self):
        nought = self.sheet.place(("+", 4, self.x, self.word(0)))
        self.is_word(1, "==", nought, self.x, width=1)
        self.is_word(0, "-", self.x, nought)
        # A sum has its word on the right.
        turned = self.sheet.place(("+", 4, self.word(3), self.x))
        self.is_itself("-", turned, self.x)

    def test_8_itself(self):
        for op in ("+", "-", "*", "&", "|", "^", "<<", ">>", "div", "rem"):
            self.is_itself(op, self.x, self.y)
        for op in ("==", "<", "<="):
            self.is_itself(op, self.x, self.y, width=1)

    def test_the_first_rule_counts(self):
        # 1 ahead of 2 and 6; 2 ahead of 5 and 6; 5 ahead of 7.
        self.is_word(0, "-", self.word(5), self.word(5))
        self.is_word(0, "*", self.word(0), self.x)
        self.assertEqual(self.sheet.make("&", 1, self.word(1, 1), self.p), self.p)
        # Sums of a sum, put there without the rules: one step at a time.
        inner = self.sheet.place(("+", 4, self.x, self.word(2)))
        outer = self.sheet.place(("+", 4, inner, self.word(3)))
        self.assertEqual(self.node("+", 4, outer, self.word(4)), ("+", 4, self.x, self.word(9)))
        self.assertEqual(self.node("==", 1, outer, self.word(4)), ("==", 1, self.x, self.word(15)))
        # The base of the outer one is the inner one, whose own base is x.
        self.is_itself("==", outer, self.x, width=1)
        self.is_itself("-", outer, inner)
        # The word is on the right, so rule 5 goes ahead of rule 7.
        mixed = self.sheet.place(("+", 4, self.word(2), self.word(3)))
        self.is_word(1, "==", mixed, self.word(5), width=1)
        self.is_word(0, "==", mixed, self.word(2), width=1)

    def test_long_rows_of_sums_that_were_placed(self):
        rows = [self.x]
        for _ in range(3000):
            rows.append(self.sheet.place(("+", 4, rows[-1], self.word(2))))
        self.assertEqual(self.node("+", 4, rows[-1], self.word(5)), ("+", 4, self.x, self.word((6000 + 5) % 16)))
        self.assertEqual(self.node("==", 1, rows[-1], self.word(5)), ("==", 1, self.x, self.word((5 - 6000) % 16)))
        # It stops where the rest comes to 0.
        self.assertEqual(self.sheet.make("+", 4, rows[-1], self.word(6)), rows[-6])

    def test_sums_of_words_that_were_placed(self):
        inner = self.sheet.place(("+", 4, self.word(5), self.word(2)))
        outer = self.sheet.place(("+", 4, inner, self.word(3)))
        self.is_word(13, "+", inner, self.word(6))
        self.is_word(1, "+", outer, self.word(7))
        self.is_word(5, "+", inner, self.word(14))
        self.is_word(1, "==", outer, self.word(10), width=1)
        self.is_word(0, "==", outer, self.word(11), width=1)

    def test_what_is_made_on_the_way_stays(self):
        sheet = Sheet()
        x = sheet.unknown(4, 0)
        sheet.make("-", 4, x, sheet.word(4, 6))
        self.assertEqual(sheet.nodes, (("input", 4, 0), ("word", 4, 6), ("word", 4, 10), ("+", 4, 0, 2)))
        self.assertEqual(sheet.make("-", 4, 3, sheet.word(4, 10)), x)
        self.assertEqual(sheet.nodes[4:], (("word", 4, 0),))
        sheet = Sheet()
        x, y = sheet.unknown(2, 0), sheet.unknown(2, 1)
        self.assertEqual(sheet.make("!=", 1, x, y), 3)
        self.assertEqual(sheet.nodes[2:], (("==", 1, 0, 1), ("not", 1, 2)))
        self.assertEqual(sheet.make("-", 2, x, x), 4)
        self.assertEqual(sheet.nodes[4:], (("word", 2, 0),))

    def test_what_is_there_is_not_added_again(self):
        term = self.sheet.make("*", 4, self.x, self.y)
        nodes = self.sheet.nodes
        self.assertEqual(self.sheet.make("*", 4, self.x, self.y), term)
        self.assertEqual(self.sheet.unknown(4, 0), self.x)
        self.assertEqual(self.sheet.place(("*", 4, self.x, self.y)), term)
        self.assertEqual(self.sheet.nodes, nodes)
        self.assertNotEqual(self.sheet.unknown(3, 0), self.x)
        self.assertNotEqual(self.sheet.word(3, 1), self.sheet.word(4, 1))

    def test_random_sheets_against_plain_rules(self):
        for seed in range(400):
            dice = random.Random(seed)
            sheet, store = Sheet(), Store()
            widths = [dice.randint(1, 3) for _ in range(2)]
            terms = [sheet.unknown(width, number) for number, width in enumerate(widths)]
            plain = [store.input(width, number) for number, width in enumerate(widths)]
            there = dict(zip(terms, plain))
            for _ in range(25):
                node = random_node(dice, sheet, terms)
                for term in node[2:]:
                    if term not in there:
                        there[term] = store.place(*sheet.nodes[term])
                parts = [there[term] for term in node[2:]]
                if dice.random() < 0.3:
                    made, told = sheet.place(node), store.place(*node[:2], *parts)
                else:
                    made, told = sheet.make(*node), store.make(*node[:2], *parts)
                expanded = store.expand(sheet.nodes)
                self.assertIs(expanded[made], told, (seed, node))
                # No other nodes are there, and each one when it was made.
                self.assertEqual(expanded, store.made, (seed, node))
                terms.append(made)
                there[made] = told

    def test_values_of_what_is_made(self):
        for seed in range(250):
            dice = random.Random(seed)
            widths, sheet, terms = random_sheet(seed)
            node = random_node(dice, sheet, terms)
            made, placed = sheet.make(*node), sheet.place(node)
            for words in all_rows(widths):
                values = values_of(sheet.nodes, words)
                self.assertEqual(values[made], values[placed], (seed, node))


class Sheets(unittest.TestCase):
    def test_a_sheet_with_rows(self):
        rows = (("input", 2, 0), ("word", 2, 3), ("+", 2, 0, 1))
        sheet = Sheet(rows)
        self.assertEqual(sheet.nodes, rows)
        self.assertEqual(sheet.unknown(2, 0), 0)
        self.assertEqual(sheet.place(("+", 2, 0, 1)), 2)
        self.assertEqual(sheet.word(2, 1), 3)
        self.assertEqual(sheet.make("+", 2, 2, 1), 5)
        self.assertEqual(sheet.nodes, (*rows, ("word", 2, 1), ("word", 2, 2), ("+", 2, 0, 4)))
        self.assertEqual(Sheet().nodes, ())

    def test_a_node_is_placed_as_it_is(self):
        sheet = Sheet((("input", 2, 0), ("word", 2, 0)))
        for node in (("+", 2, 0, 1), ("+", 2, 1, 1), ("not", 2, 1), ("==", 1, 0, 0), ("!=", 1, 0, 1), ("wide", 2, 0)):
            placed = sheet.place(node)
            self.assertEqual(sheet.nodes[placed], node)
        self.assertEqual(len(sheet.nodes), 8)

    def test_sheets_are_their_own(self):
        one, other = Sheet(), Sheet()
        one.word(1, 0)
        self.assertEqual(other.nodes, ())
        kept = one.nodes
        one.word(1, 1)
        self.assertEqual(kept, (("word", 1, 0),))

    def test_put_in(self):
        sheet = Sheet((("input", 3, 0), ("word", 3, 6)))
        nodes = (("input", 3, 0), ("input", 3, 1), ("word", 3, 2), ("+", 3, 0, 2), ("-", 3, 3, 1), ("!=", 1, 3, 4))
        terms = sheet.put_in(nodes, (1, 0))
        # Input 0 is the word 6 there, input 1 is input 0.
        self.assertEqual(terms[:4], (1, 0, 2, 3))
        self.assertEqual(sheet.nodes[2:5], (("word", 3, 2), ("word", 3, 0), ("-", 3, 3, 0)))
        self.assertEqual(terms[4], 4)
        self.assertEqual(sheet.nodes[terms[5]][0], "not")
        self.assertIsInstance(terms, tuple)
        self.assertEqual(sheet.put_in((), ()), ())

    def test_put_in_more_terms_than_inputs(self):
        sheet = Sheet((("word", 2, 1), ("word", 1, 0)))
        self.assertEqual(sheet.put_in((("input", 2, 0), ("not", 2, 0)), (0, 1, 1)), (0, 2))
        self.assertEqual(sheet.nodes[2], ("word", 2, 2))

    def test_values_of_what_is_put_in(self):
        for seed in range(150):
            dice = random.Random(seed)
            widths, elder, _ = random_sheet(seed)
            others, sheet, terms = random_sheet(seed + 1000)
            given = []
            for width in widths:
                fitting = [term for term in terms if sheet.nodes[term][1] == width]
                given.append(dice.choice(fitting) if fitting else sheet.word(width, dice.randrange(1 << width)))
            before = sheet.nodes
            made = sheet.put_in(elder.nodes, tuple(given))
            self.assertEqual(sheet.nodes[:len(before)], before)
            self.assertTrue(judge_sheet(sheet.nodes))
            self.assertEqual(len(made), len(elder.nodes))
            for words in all_rows(others)[::3]:
                values = values_of(sheet.nodes, words)
                told = values_of(elder.nodes, tuple(values[term] for term in given))
                self.assertEqual(tuple(values[term] for term in made), told, seed)

    def test_put_in_makes_by_the_rules(self):
        for seed in range(100):
            widths, elder, _ = random_sheet(seed)
            sheet, store = Sheet(), Store()
            inputs = [sheet.unknown(width, number) for number, width in enumerate(widths)]
            made = sheet.put_in(elder.nodes, tuple(inputs))
            plain, told = [store.input(width, number) for number, width in enumerate(widths)], []
            for node in elder.nodes:
                if node[0] == "word":
                    told.append(store.word(node[1], node[2]))
                elif node[0] == "input":
                    told.append(plain[node[2]])
                else:
                    told.append(store.make(*node[:2], *[told[part] for part in node[2:]]))
            expanded = store.expand(sheet.nodes)
            self.assertEqual([expanded[term] for term in made], told)
            self.assertEqual(expanded, store.made)


class Judge(unittest.TestCase):
    X = ("input", 3, 0)
    P = ("input", 1, 1)

    def right(self, *nodes):
        self.assertIs(judge_sheet(nodes), True, nodes)

    def wrong(self, *nodes):
        self.assertIs(judge_sheet(nodes), False, nodes)

    def test_right_ones(self):
        x, p = self.X, self.P
        self.right()
        for op in ("+", "-", "*", "&", "|", "^", "div", "rem", "<<", ">>"):
            self.right(x, (op, 3, 0, 0))
        for op in ("==", "!=", "<", "<="):
            self.right(x, (op, 1, 0, 0))
        self.right(x, ("not", 3, 0), ("neg", 3, 1), ("wide", 8, 0), ("wide", 1, 3), ("wide", 3, 0))
        self.right(x, p, ("pick", 3, 1, 0, 0), ("pick", 1, 1, 1, 1))
        self.right(x, p, ("<<", 3, 0, 1), (">>", 1, 1, 0))
        self.right(("word", 8, 255), ("word", 1, 0), ("word", 1, 1), ("input", 8, 1000000))
        self.right(("input", 1, 0), ("input", 2, 0), ("word", 1, 0), ("word", 2, 0))

    def test_operands_that_are_not_ahead(self):
        for at in (1, 2, -1, -2, 1000000, -1000000):
            self.wrong(self.X, ("not", 3, at), ("not", 3, 0))
            self.wrong(self.X, ("+", 3, 0, at), ("not", 3, 0))
            self.wrong(self.X, ("+", 3, at, 0), ("not", 3, 0))
            self.wrong(self.X, self.P, ("pick", 3, 1, 0, at if at > 0 and at != 1 else 2))
        self.wrong(("not", 3, 0))

    def test_widths(self):
        x, p = self.X, self.P
        for width in (0, 9, -1, 1000000):
            self.wrong(("word", width, 0))
            self.wrong(("input", width, 0))
            self.wrong(x, ("wide", width, 0))
        for width in (1, 2, 4):
            for op in ("+", "-", "*", "&", "|", "^", "div", "rem", "<<", ">>"):
                self.wrong(x, (op, width, 0, 0))
            self.wrong(x, ("not", width, 0))
            self.wrong(x, ("neg", width, 0))
        for op in ("+", "-", "*", "&", "|", "^", "div", "rem"):
            self.wrong(x, p, (op, 3, 0, 1))
            self.wrong(x, p, (op, 1, 0, 1))
            self.wrong(x, p, (op, 3, 1, 0))
        for op in ("==", "!=", "<", "<="):
            self.wrong(x, (op, 3, 0, 0))
            self.wrong(x, p, (op, 1, 0, 1))
        for op in ("<<", ">>"):
            self.wrong(x, p, (op, 1, 0, 1))
        for node in (("pick", 3, 0, 0, 0), ("pick", 3, 1, 0, 1), ("pick", 3, 1, 1, 0), ("pick", 1, 1, 0, 0)):
            self.wrong(x, p, node)

    def test_words_that_do_not_fit(self):
        for width, value in ((3, 8), (3, -1), (1, 2), (8, 256), (8, -1000000)):
            self.wrong(("word", width, value))
        self.wrong(("input", 3, -1))

    def test_nodes_that_are_there_twice(self):
        self.wrong(self.X, self.X)
        self.wrong(self.X, ("not", 3, 0), ("not", 3, 0))
        self.wrong(("word", 1, 1), ("word", 2, 1), ("word", 1, 1))

    def test_parts_left_out_or_added(self):
        x, p = self.X, self.P
        for node in (("word", 3, 1), ("input", 3, 2), ("not", 3, 0), ("neg", 3, 0), ("wide", 3, 0), ("+", 3, 0, 0),
                     ("==", 1, 0, 0), ("<<", 3, 0, 0), ("pick", 3, 1, 0, 0)):
            self.right(x, p, node)
            for many in range(1, len(node)):
                self.wrong(x, p, node[:many])
            self.wrong(x, p, (*node, 0))
            self.wrong(x, p, (*node, 0, 0))

    def test_other_first_words(self):
        # One operand for an operation with two, and the other way round.
        self.wrong(self.X, ("+", 3, 0))
        self.wrong(self.X, ("not", 3, 0, 0))
        self.wrong(self.X, ("word", 3, 0, 0))
        self.wrong(self.X, ("pick", 3, 0, 0))

    def test_spoilt_ones_against_a_plain_judge(self):
        taken = 0
        for seed in range(600):
            dice = random.Random(seed)
            _, sheet, _ = random_sheet(seed, 8)
            self.right(*sheet.nodes)
            for _ in range(4):
                nodes = spoilt(dice, sheet.nodes)
                self.assertIs(judge_sheet(nodes), right_sheet(nodes), nodes)
                taken += judge_sheet(nodes)
        self.assertGreater(taken, 50)

    def test_lists_are_not_needed_and_nothing_changes(self):
        nodes = (self.X, ("not", 3, 0))
        judge_sheet(nodes)
        self.assertEqual(nodes, (("input", 3, 0), ("not", 3, 0)))


if __name__ == "__main__":
    unittest.main()
