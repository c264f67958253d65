"""Reading terms in cubes."""

import random
import unittest

from metorshut.cubes import fits, read_term
from metorshut.values import values_of
from plainterms import Store, read
from sheetmaking import all_rows, random_sheet


def pair(text):
    """What is known of a word, written bit by bit, the highest one first: 0, 1, or ? for one that is not known."""
    known = int("".join("0" if one == "?" else "1" for one in text), 2)
    return known, int(text.replace("?", "0"), 2)


def cubes_of(width):
    """All pairs of a width."""
    return [(known, bits) for known in range(1 << width) for bits in range(1 << width) if bits & ~known == 0]


class Reading(unittest.TestCase):
    def read(self, node, *texts):
        """The pair that is read of a node over inputs of which so much is known."""
        nodes = tuple(("input", len(text), number) for number, text in enumerate(texts))
        operands = range(len(texts))
        return read_term((*nodes, (*node, *operands)), tuple(pair(text) for text in texts), len(nodes))

    def told(self, text, op, *texts):
        self.assertEqual(self.read((op, len(text)), *texts), pair(text), (op, texts))

    def test_words_and_inputs(self):
        nodes = (("word", 3, 5), ("input", 3, 0), ("input", 2, 0), ("input", 5, 0), ("input", 3, 1))
        cube = ((6, 4),)
        self.assertEqual([read_term(nodes, cube, at) for at in range(5)], [(7, 5), (6, 4), (2, 0), (6, 4), (0, 0)])
        self.assertEqual(read_term(nodes, (), 1), (0, 0))
        self.assertEqual(read_term(nodes, (), 0), (7, 5))

    def test_bits(self):
        self.told("?10", "not", "?01")
        for left in "01?":
            for right in "01?":
                hidden = {"00", "01", "10", "0?", "?0"}
                self.told("0" if left + right in hidden else "1" if left + right == "11" else "?", "&", left, right)
                shown = {"11", "01", "10", "1?", "?1"}
                self.told("1" if left + right in shown else "0" if left + right == "00" else "?", "|", left, right)
                same = "?" if "?" in left + right else str(int(left != right))
                self.told(same, "^", left, right)

    def test_plus(self):
        self.told("1000", "+", "0111", "0001")
        # A carry that is not known makes the next bit unknown, up to two bits that are equal.
        self.told("00??", "+", "000?", "000?")
        self.told("???0", "+", "01?1", "00?1")
        self.told("?110", "+", "?011", "?011")
        self.told("???", "+", "11?", "00?")
        self.told("?0", "+", "?1", "?1")

    def test_minus_and_neg(self):
        self.told("0011", "-", "1000", "0101")
        self.told("1101", "-", "0101", "1000")
        self.told("??10", "-", "??01", "??11")
        self.told("000", "-", "101", "101")
        self.told("???", "-", "???", "101")
        self.told("000", "neg", "000")
        self.told("101", "neg", "011")
        self.told("??1", "neg", "??1")
        self.told("?10", "neg", "?10")
        self.told("???", "neg", "00?")

    def test_times(self):
        self.told("1111", "*", "0101", "0011")
        self.told("??10", "*", "??10", "1111")
        self.told("??11", "*", "??01", "??11")
        self.told("????", "*", "111?", "1111")
        self.told("0000", "*", "0000", "????")
        self.told("0000", "*", "?1?1", "0000")
        self.told("??00", "*", "??00", "0?00")
        # Whole and not 0: only as many bits as the other one has.
        self.told("???0", "*", "???1", "0100")

    def test_shifts(self):
        self.told("?100", "<<", "00?1", "10")
        self.told("00?1", ">>", "?10?", "10")
        self.told("0000", "<<", "????", "100")
        self.told("0000", ">>", "????", "111")
        self.told("????", "<<", "0010", "?0")
        self.told("0000", "<<", "0000", "??")
        self.told("0000", ">>", "0000", "??")
        self.told("????", ">>", "000?", "??")
        self.told("?", ">>", "?", "00000000")
        self.told("0", ">>", "?", "00000001")
        self.told("10000000", "<<", "???????1", "111")

    def test_div_and_rem(self):
        self.told("0011", "div", "1101", "0100")
        self.told("0001", "rem", "1101", "0100")
        self.told("0000", "div", "1101", "0000")
        self.told("0000", "rem", "1101", "0000")
        for op in ("div", "rem"):
            self.told("????", op, "000?", "1111")
            self.told("????", op, "0000", "???1")

    def test_relations(self):
        for op, other in (("==", "!="), ("!=", "==")):
            yes, no = ("1", "0") if op == "==" else ("0", "1")
            self.told(yes, op, "101", "101")
            self.told(no, op, "1??", "0??")
            self.told("?", op, "1??", "?00")
            self.told("?", op, "10?", "101")
        self.told("1", "<", "0?", "10")
        self.told("?", "<", "0?", "?1")
        self.told("0", "<", "1?", "10")
        self.told("0", "<", "11", "??")
        self.told("0", "<", "??", "00")
        self.told("?", "<", "?0", "1?")
        self.told("1", "<=", "0?", "01")
        self.told("1", "<=", "??", "11")
        self.told("1", "<=", "00", "??")
        self.told("0", "<=", "1?", "01")
        self.told("?", "<=", "1?", "?0")
        self.told("?", "<=", "1?", "10")

    def test_pick(self):
        self.told("1?0", "pick", "1", "1?0", "01?")
        self.told("01?", "pick", "0", "1?0", "01?")
        self.told("1??0", "pick", "?", "11?0", "10?0")
        self.told("101", "pick", "?", "101", "101")
        self.told("???", "pick", "?", "101", "010")

    def test_wide(self):
        self.told("?1", "wide", "10?1")
        self.told("0001?", "wide", "1?")
        self.told("1?", "wide", "1?")

    def test_fits(self):
        self.assertIs(fits(((6, 4), (0, 0)), (5, 7)), True)
        self.assertIs(fits(((6, 4), (0, 0)), (4, 0)), True)
        self.assertIs(fits(((6, 4), (0, 0)), (6, 0)), False)
        self.assertIs(fits(((6, 4), (1, 1)), (4, 2)), False)
        self.assertIs(fits((), ()), True)


class AllCubes(unittest.TestCase):
    def test_each_operation_in_all_cubes(self):
        """Every pair of cubes of two words of width 2: as the document tells bit by bit."""
        x, y, p = ("input", 2, 0), ("input", 2, 1), ("input", 1, 2)
        nodes = [x, y, p]
        for op in ("+", "-", "*", "&", "|", "^", "<<", ">>", "div", "rem"):
            nodes.append((op, 2, 0, 1))
        for op in ("==", "!=", "<", "<="):
            nodes.append((op, 1, 0, 1))
        nodes += [("not", 2, 0), ("neg", 2, 0), ("wide", 1, 0), ("wide", 4, 0), ("pick", 2, 2, 0, 1)]
        nodes += [("pick", 2, 2, 0, 0), ("<<", 1, 2, 0), (">>", 2, 0, 2)]
        nodes = tuple(nodes)
        terms = Store().expand(nodes)
        rows = {words: values_of(nodes, words) for words in all_rows((2, 2, 1))}
        for one in cubes_of(2):
            for other in cubes_of(2):
                for choice in ((0, 0), (1, 0), (1, 1)):
                    cube = (one, other, choice)
                    self.check(nodes, terms, cube, rows)

    def check(self, nodes, terms, cube, rows):
        fitting = [values for words, values in rows.items() if fits(cube, words)]
        for at, node in enumerate(nodes):
            known, bits = read_term(nodes, cube, at)
            told = read(terms[at], cube)
            self.assertEqual(known, sum(1 << k for k, bit in enumerate(told) if bit is not None), (node, cube))
            self.assertEqual(bits, sum(1 << k for k, bit in enumerate(told) if bit == 1), (node, cube))
            for values in fitting:
                self.assertEqual(values[at] & known, bits, (node, cube))

    def test_random_sheets(self):
        for seed in range(150):
            dice = random.Random(seed)
            widths, sheet, _ = random_sheet(seed, placed=0.5)
            terms = Store().expand(sheet.nodes)
            rows = {words: values_of(sheet.nodes, words) for words in all_rows(widths)}
            for _ in range(5):
                cube = tuple(dice.choice(cubes_of(width)) for width in widths)
                self.check(sheet.nodes, terms, cube, rows)

    def test_whole_inputs_make_whole_terms(self):
        for seed in range(100):
            widths, sheet, _ = random_sheet(seed, placed=0.7)
            words = random.Random(seed).choice(all_rows(widths))
            cube = tuple(((1 << width) - 1, word) for width, word in zip(widths, words))
            values = values_of(sheet.nodes, words)
            for at, node in enumerate(sheet.nodes):
                self.assertEqual(read_term(sheet.nodes, cube, at), ((1 << node[1]) - 1, values[at]))

    def test_wide_words(self):
        dice = random.Random(1)
        for _ in range(300):
            op = dice.choice(("+", "-", "*", "<<", ">>", "div", "rem", "==", "<", "<="))
            node = (op, 1 if op in ("==", "<", "<=") else 8, 0, 1)
            nodes = (("input", 8, 0), ("input", 8, 1), node)
            cube = []
            for _ in range(2):
                known = dice.choice((255, 255, 254, 15, 240, dice.randrange(256)))
                cube.append((known, dice.randrange(256) & known))
            term = Store().expand(nodes)[2]
            told = read(term, cube)
            known = sum(1 << k for k, bit in enumerate(told) if bit is not None)
            self.assertEqual(read_term(nodes, tuple(cube), 2), (known, sum(1 << k for k, b in enumerate(told) if b)))


if __name__ == "__main__":
    unittest.main()
