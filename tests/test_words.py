import unittest

from metorshut.words import all_words, is_word, result


class Result(unittest.TestCase):
    def test_operations_of_one_operand(self):
        for width in range(1, 9):
            m = 2 ** width
            for left in range(m):
                self.assertEqual(result("not", width, left), m - 1 - left)
                self.assertEqual(result("neg", width, left), (m - left) % m)

    def test_operations_of_two_operands(self):
        for width in (1, 2, 3, 8):
            m = 2 ** width
            for left in range(m):
                for right in range(0, m, 1 if width < 8 else 7):
                    wanted = {
                        "+": (left + right) % m,
                        "-": (left - right) % m,
                        "*": left * right % m,
                        "&": left & right,
                        "|": left | right,
                        "^": left ^ right,
                        "<<": left * 2 ** right % m,
                        ">>": left // 2 ** right,
                        "div": left // right if right else 0,
                        "rem": left % right if right else 0,
                        "==": 1 if left == right else 0,
                        "!=": 1 if left != right else 0,
                        "<": 1 if left < right else 0,
                        "<=": 1 if left <= right else 0,
                    }
                    for op, word in wanted.items():
                        got = result(op, width, left, right)
                        self.assertEqual(got, word, (op, width, left, right))
                        self.assertIs(type(got), int, op)

    def test_dividing_by_nought(self):
        for width in range(1, 9):
            for left in (0, 1, 2 ** width - 1):
                self.assertEqual(result("div", width, left, 0), 0)
                self.assertEqual(result("rem", width, left, 0), 0)
        self.assertEqual(result("div", 8, 255, 1), 255)
        self.assertEqual(result("rem", 8, 255, 1), 0)
        self.assertEqual(result("rem", 8, 200, 7), 4)

    def test_shifts(self):
        self.assertEqual(result("<<", 8, 1, 7), 128)
        self.assertEqual(result("<<", 8, 1, 8), 0)
        self.assertEqual(result("<<", 8, 255, 255), 0)
        self.assertEqual(result("<<", 3, 5, 1), 2)
        self.assertEqual(result("<<", 3, 5, 3), 0)
        self.assertEqual(result(">>", 8, 128, 7), 1)
        self.assertEqual(result(">>", 8, 255, 8), 0)
        self.assertEqual(result(">>", 8, 255, 255), 0)
        self.assertEqual(result("<<", 1, 1, 0), 1)
        self.assertEqual(result("<<", 1, 1, 1), 0)
        self.assertEqual(result(">>", 2, 3, 200), 0)

    def test_shifts_by_words_of_another_width(self):
        self.assertEqual(result("<<", 8, 3, 1), 6)
        self.assertEqual(result(">>", 1, 1, 255), 0)
        self.assertEqual(result("<<", 2, 3, 7), 0)

    def test_wide(self):
        self.assertEqual(result("wide", 8, 3), 3)
        self.assertEqual(result("wide", 2, 7), 3)
        self.assertEqual(result("wide", 1, 254), 0)
        self.assertEqual(result("wide", 8, 255), 255)
        self.assertEqual(result("wide", 3, 255), 7)

    def test_pick(self):
        self.assertEqual(result("pick", 8, 1, 200, 3), 200)
        self.assertEqual(result("pick", 8, 0, 200, 3), 3)
        self.assertEqual(result("pick", 1, 1, 0, 1), 0)
        self.assertEqual(result("pick", 1, 0, 0, 1), 1)

    def test_edges_of_widths(self):
        self.assertEqual(result("+", 1, 1, 1), 0)
        self.assertEqual(result("+", 8, 255, 1), 0)
        self.assertEqual(result("-", 8, 0, 1), 255)
        self.assertEqual(result("-", 1, 0, 1), 1)
        self.assertEqual(result("*", 8, 16, 16), 0)
        self.assertEqual(result("*", 8, 255, 255), 1)
        self.assertEqual(result("neg", 8, 0), 0)
        self.assertEqual(result("not", 1, 1), 0)

    def test_words_are_told_by_star(self):
        self.assertEqual(result("wide", 3, *(9,)), 1)


class Words(unittest.TestCase):
    def test_is_word(self):
        self.assertTrue(is_word(0, 1) and is_word(1, 1) and is_word(255, 8))
        for value in (-1, 2, True, False, None, "1", (1,)):
            self.assertFalse(is_word(value, 1), value)
        self.assertFalse(is_word(256, 8))

    def test_all_words(self):
        self.assertEqual(all_words(()), [()])
        self.assertEqual(all_words((1, 2))[:5], [(0, 0), (0, 1), (0, 2), (0, 3), (1, 0)])
        self.assertEqual(all_words((2, 3)), sorted(all_words((2, 3))))
        self.assertEqual(len(all_words((2, 3))), 32)


if __name__ == "__main__":
    unittest.main()
