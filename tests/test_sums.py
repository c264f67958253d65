"""Systems of sums modulo powers of 2."""

import random
import unittest
from itertools import product

from metorshut.sums import judge_multipliers, many_solutions, solve_sums


def solutions(width, many, rows):
    m = 2 ** width
    return [words for words in product(range(m), repeat=many)
            if all(sum(f * x for f, x in zip(factors, words)) % m == constant for factors, constant in rows)]


def bars(width, many, rows, multipliers):
    m = 2 ** width
    if len(multipliers) != len(rows) or any(one < 0 or one >= m for one in multipliers):
        return False
    totals = [sum(one * factors[at] for one, (factors, _) in zip(multipliers, rows)) % m for at in range(many)]
    return not any(totals) and sum(one * row[1] for one, row in zip(multipliers, rows)) % m != 0


def random_system(dice, width, many):
    m = 2 ** width
    rows = []
    for _ in range(dice.randrange(9 if many < 3 else 5)):
        even = dice.random() < 0.4
        factors = tuple((dice.randrange(m) * (2 if even else 1)) % m * (dice.random() < 0.75) for _ in range(many))
        constant = dice.randrange(m)
        if dice.random() < 0.6:
            # So that there are solutions more often.
            constant = sum(factors) % m
        rows.append((tuple(int(one) for one in factors), constant))
    return tuple(rows)


class Sums(unittest.TestCase):
    def check(self, width, many, rows, found):
        word, told = solve_sums(width, many, rows)
        self.assertEqual(many_solutions(width, many, rows), len(found), (width, many, rows))
        if found:
            self.assertEqual((word, told), ("solution", found[0]), (width, many, rows))
        else:
            self.assertEqual(word, "bar")
            self.assertTrue(bars(width, many, rows, told), (width, many, rows, told))
            self.assertIs(judge_multipliers(width, many, rows, told), True)

    def test_against_a_search(self):
        barred = 0
        for seed in range(900):
            dice = random.Random(seed)
            width = dice.randint(1, 4)
            many = dice.randrange({1: 7, 2: 5, 3: 4, 4: 3}[width])
            rows = random_system(dice, width, many)
            found = solutions(width, many, rows)
            barred += not found
            self.check(width, many, rows, found)
        self.assertTrue(200 < barred < 700)

    def test_one_input_of_each_width(self):
        for seed in range(300):
            dice = random.Random(seed)
            width = dice.randint(5, 8)
            rows = random_system(dice, width, 1)
            self.check(width, 1, rows, solutions(width, 1, rows))

    def test_the_greatest_systems(self):
        barred = 0
        for seed in range(300):
            dice = random.Random(seed)
            m = 256
            words = [dice.randrange(m) for _ in range(6)]
            rows = []
            for _ in range(8):
                factors = tuple(dice.choice((0, 1, 2, 4, 128, dice.randrange(m))) for _ in range(6))
                rows.append((factors, sum(f * x for f, x in zip(factors, words)) % m))
            if seed % 2:
                at = dice.randrange(8)
                rows[at] = (rows[at][0], (rows[at][1] + dice.choice((1, 2, 64, 128))) % m)
            word, found = solve_sums(8, 6, tuple(rows))
            if word == "bar":
                barred += 1
                self.assertTrue(seed % 2 and bars(8, 6, rows, found))
                self.assertEqual(many_solutions(8, 6, tuple(rows)), 0)
            else:
                for factors, constant in rows:
                    self.assertEqual(sum(f * x for f, x in zip(factors, found)) % m, constant)
                count = many_solutions(8, 6, tuple(rows))
                self.assertEqual(count & (count - 1), 0)
                self.assertGreater(count, 0)
                if seed % 2 == 0:
                    self.assertLessEqual(found, tuple(words))
        self.assertGreater(barred, 20)

    def test_no_inputs(self):
        self.assertEqual(solve_sums(3, 0, ()), ("solution", ()))
        self.assertEqual(many_solutions(3, 0, ()), 1)
        self.assertEqual(solve_sums(3, 0, (((), 0), ((), 0))), ("solution", ()))
        self.check(3, 0, (((), 0), ((), 4)), [])
        self.assertEqual(solve_sums(3, 0, (((), 0), ((), 4)))[1][1] % 2, 1)

    def test_no_rows(self):
        self.assertEqual(solve_sums(8, 6, ()), ("solution", (0,) * 6))
        self.assertEqual(many_solutions(8, 6, ()), 2 ** 48)
        self.assertEqual(many_solutions(1, 2, ()), 4)

    def test_even_factors(self):
        self.assertEqual(solve_sums(3, 1, (((2,), 6),)), ("solution", (3,)))
        self.assertEqual(many_solutions(3, 1, (((2,), 6),)), 2)
        self.assertEqual(solve_sums(3, 1, (((2,), 5),)), ("bar", (4,)))
        self.assertEqual(solve_sums(3, 1, (((4,), 4), ((2,), 2))), ("solution", (1,)))
        self.check(3, 1, (((4,), 4), ((2,), 0)), [])
        self.assertEqual(solve_sums(3, 2, (((2, 4), 2),)), ("solution", (1, 0)))
        self.assertEqual(solve_sums(3, 2, (((4, 2), 2),)), ("solution", (0, 1)))

    def test_the_least_solution(self):
        self.assertEqual(solve_sums(4, 2, (((1, 1), 5),)), ("solution", (0, 5)))
        self.assertEqual(solve_sums(4, 2, (((3, 0), 5),)), ("solution", (7, 0)))
        # x is even whatever y is.
        self.assertEqual(solve_sums(4, 2, (((1, 2), 7),)), ("solution", (1, 3)))
        self.assertEqual(solve_sums(4, 3, (((0, 1, 2), 7), ((1, 0, 8), 9))), ("solution", (1, 1, 3)))

    def test_what_is_passed_stays(self):
        rows = (((2, 3), 1), ((1, 1), 0))
        solve_sums(2, 2, rows)
        self.assertEqual(rows, (((2, 3), 1), ((1, 1), 0)))


class Multipliers(unittest.TestCase):
    ROWS = (((1, 2), 1), ((1, 2), 3))

    def judged(self, told, *multipliers, width=3, many=2, rows=ROWS):
        self.assertIs(judge_multipliers(width, many, rows, multipliers), told, multipliers)

    def test_all_of_them(self):
        for seed in range(150):
            dice = random.Random(seed)
            width, many = dice.randint(1, 3), dice.randrange(4)
            rows = random_system(dice, width, many)[:3]
            for multipliers in product(range(2 ** width), repeat=len(rows)):
                told = bars(width, many, rows, multipliers)
                self.assertIs(judge_multipliers(width, many, rows, multipliers), told)
                if told:
                    self.assertEqual(solutions(width, many, rows), [])

    def test_one_off(self):
        self.judged(True, 1, 7)
        self.judged(True, 7, 1)
        for pair in ((1, 6), (2, 7), (0, 7), (1, 0), (0, 0), (4, 4)):
            self.judged(False, *pair)
        self.judged(True, 2, 6)

    def test_too_few_or_too_many(self):
        for row in ((), (1,), (1, 7, 0), (1, 7, 1)):
            self.judged(False, *row)
        self.judged(False, rows=(), many=0)
        self.judged(False, 0, rows=())

    def test_out_of_range(self):
        for row in ((1, -1), (9, 7), (1, 15), (-7, 7), (1000000, 7), (1, -1000000)):
            self.judged(False, *row)
        self.judged(True, 1, rows=(((), 1),), many=0)
        self.judged(True, 7, rows=(((), 1),), many=0)
        self.judged(False, 8, rows=(((), 1),), many=0)

    def test_a_factor_or_the_constant_counts(self):
        self.judged(False, 1, rows=(((0, 1), 1),))
        self.judged(False, 1, rows=(((1, 0), 1),))
        self.judged(False, 1, rows=(((0, 0), 0),))
        self.judged(True, 1, rows=(((0, 0), 1),))
        self.judged(True, 2, rows=(((4, 0), 1),))
        self.judged(False, 2, rows=(((4, 0), 4),))


if __name__ == "__main__":
    unittest.main()
