"""Covers, bars and greedy rows."""

import random
import unittest
from itertools import combinations

from metorshut.covers import bar_of, fewest, greedy, judge_bar
from spoiling import part_at, places_in, with_part


def all_numbers(sets):
    return set().union(*sets) if sets else set()


def is_cover(sets, chosen):
    return all_numbers([sets[at] for at in chosen]) == all_numbers(sets)


def covers(sets, size):
    """All covers of so many sets, ascending."""
    return [chosen for chosen in combinations(range(len(sets)), size) if is_cover(sets, chosen)]


def least_cover(sets):
    return next(found[0] for size in range(len(sets) + 1) for found in [covers(sets, size)] if found)


def right_bar(sets, bar, left, taken=()):
    """A second judge of bars."""
    word, g = bar[0], bar[1]
    if g not in all_numbers(sets) or any(g in sets[at] for at in taken):
        return False
    if word == "left":
        return left == 0
    wanted = tuple(at for at in range(len(sets)) if g in sets[at])
    if left == 0 or tuple(at for at, _ in bar[2]) != wanted:
        return False
    return all(right_bar(sets, inner, left - 1, (*taken, at)) for at, inner in bar[2])


def drawn_sets(seed, most=7):
    dice = random.Random(seed)
    many = dice.choice((1, 3, 6, 9))
    numbers = sorted(dice.sample(range(400), many))
    return tuple(tuple(sorted(dice.sample(numbers, dice.randrange(many + 1)))) for _ in range(dice.randrange(most + 1)))


class Fewest(unittest.TestCase):
    def test_against_a_search(self):
        sizes = set()
        for seed in range(1500):
            sets = drawn_sets(seed)
            told = least_cover(sets)
            self.assertEqual(fewest(sets), told, sets)
            sizes.add(len(told))
        self.assertLessEqual({0, 1, 2, 3, 4}, sizes)

    def test_edges(self):
        self.assertEqual(fewest(()), ())
        self.assertEqual(fewest(((), ())), ())
        self.assertEqual(fewest(((0,),)), (0,))
        self.assertEqual(fewest(((), (5,), (5,))), (1,))
        self.assertEqual(fewest(((1,), (1, 2), (2,))), (1,))
        self.assertEqual(fewest(((0, 399), (0,), (399,))), (0,))

    def test_the_least_of_several(self):
        self.assertEqual(fewest(((1, 2), (3, 4), (1, 3), (2, 4))), (0, 1))
        self.assertEqual(fewest(((1, 2), (2, 3), (3, 1))), (0, 1))
        self.assertEqual(fewest(((2, 4), (1, 2), (1, 3), (3, 4))), (0, 2))

    def test_sixteen_sets(self):
        self.assertEqual(fewest(tuple((at,) for at in range(16))), tuple(range(16)))
        dice = random.Random(3)
        sets = tuple(tuple(sorted(dice.sample(range(400), 90))) for _ in range(16))
        found = fewest(sets)
        self.assertTrue(is_cover(sets, found))
        self.assertEqual(found, covers(sets, len(found))[0])
        self.assertEqual(covers(sets, len(found) - 1), [])


class Bars(unittest.TestCase):
    def test_one_exactly_if_no_cover_is_that_small(self):
        for seed in range(700):
            sets = drawn_sets(seed)
            least = len(least_cover(sets))
            for size in range(len(sets) + 2):
                bar = bar_of(sets, size)
                self.assertIs(bar is None, least <= size, sets)
                if bar is not None:
                    self.assertIs(judge_bar(sets, size, bar), True)
                    self.assertTrue(right_bar(sets, bar, size))

    def test_plain_ones(self):
        self.assertIsNone(bar_of((), 0))
        self.assertIsNone(bar_of(((), ()), 0))
        self.assertEqual(bar_of(((7,),), 0), ("left", 7))
        self.assertIsNone(bar_of(((7,),), 1))
        self.assertEqual(bar_of(((1,), (2,)), 1), ("each", 1, ((0, ("left", 2)),)))

    def test_other_right_bars(self):
        sets = ((1, 2), (2, 3), (3, 4))
        for bar in (("each", 1, ((0, ("left", 3)),)), ("each", 1, ((0, ("left", 4)),)),
                    ("each", 2, ((0, ("left", 4)), (1, ("left", 1)))), ("each", 4, ((2, ("left", 1)),))):
            self.assertIs(judge_bar(sets, 1, bar), True)

    def test_wrong_bars(self):
        sets = ((1, 2), (2, 3), (3, 4))
        first, second = (0, ("left", 4)), (1, ("left", 1))
        self.assertIs(judge_bar(sets, 1, ("each", 2, (first, second))), True)
        for branches in ((first,), (second,), (second, first), (first, first, second), (first, second, second), (),
                         (first, second, (2, ("left", 1))), (first, second, (3, ("left", 1))), ((-1, first[1]), second),
                         (first, (1, ("left", 2))), ((0, ("left", 1)), second), (first, (1, ("left", 5))),
                         ((0, ("left", -1)), second), ((0, ("each", 4, ((2, ("left", 1)),))), second)):
            self.assertIs(judge_bar(sets, 1, ("each", 2, branches)), False, branches)
        # A number that is in no set.
        for number in (0, 5, -1, 1000000):
            self.assertIs(judge_bar(sets, 0, ("left", number)), False)
            self.assertIs(judge_bar(sets, 1, ("each", number, ())), False)
        # Sets can still be taken, or none can.
        self.assertIs(judge_bar(sets, 1, ("left", 1)), False)
        self.assertIs(judge_bar(sets, 0, ("left", 1)), True)
        self.assertIs(judge_bar(sets, 0, ("each", 1, ((0, ("left", 4)),))), False)
        self.assertIs(judge_bar((), 0, ("left", 0)), False)
        # An inner node whose number a taken set has.
        three = ((1, 2), (3,), (4,))
        inner = ("each", 3, ((1, ("left", 4)),))
        self.assertIs(judge_bar(three, 2, ("each", 1, ((0, inner),))), True)
        self.assertIs(judge_bar(three, 2, ("each", 1, ((0, ("each", 2, ((0, ("left", 4)),))),))), False)
        self.assertIs(judge_bar(three, 1, ("each", 1, ((0, inner),))), False)
        self.assertIs(judge_bar(three, 3, ("each", 1, ((0, inner),))), False)

    def test_spoilt_at_each_place(self):
        taken = seen = 0
        for seed in range(400):
            sets = drawn_sets(seed, 6)
            size = len(least_cover(sets)) - 1
            if size < 0:
                continue
            bar = bar_of(sets, size)
            for at in places_in(bar)[:60]:
                for part in self.others(part_at(bar, at)):
                    bad = with_part(bar, at, part)
                    told = right_bar(sets, bad, size)
                    self.assertIs(judge_bar(sets, size, bad), told, (sets, bad))
                    taken += told
                    seen += 1
            for other in (size - 1, size + 1):
                if other >= 0:
                    self.assertIs(judge_bar(sets, other, bar), False)
        self.assertTrue(50 < taken < seen - 1000)

    def others(self, part):
        if isinstance(part, int):
            return [part + 1, part - 1, -1, 399, 1000000, -1000000]
        if isinstance(part, tuple) and part and isinstance(part[0], tuple):
            return [part[1:], part[:-1], (*part, part[0]), (part[0], *part), part[::-1]]
        if isinstance(part, tuple) and part and part[0] == "each":
            return [("left", part[1]), *[inner for _, inner in part[2]]]
        return []

    def test_large_ones(self):
        alone = tuple((at,) for at in range(16))
        for size in range(16):
            self.assertIs(judge_bar(alone, size, bar_of(alone, size)), True)
        self.assertIsNone(bar_of(alone, 16))
        dice = random.Random(5)
        rows = [[] for _ in range(16)]
        for number in range(400):
            for at in dice.sample(range(16), 6):
                rows[at].append(number)
        sets = tuple(tuple(row) for row in rows)
        size = len(fewest(sets)) - 1
        self.assertIs(judge_bar(sets, size, bar_of(sets, size)), True)


class Greedy(unittest.TestCase):
    def test_against_its_words(self):
        for seed in range(800):
            sets = drawn_sets(seed)
            row = greedy(sets)
            self.assertIsInstance(row, tuple)
            seen = set()
            for at in row:
                news = [len(set(one) - seen) for one in sets]
                self.assertEqual((at, news[at] > 0), (news.index(max(news)), True))
                seen |= set(sets[at])
            self.assertEqual(seen, all_numbers(sets))

    def test_what_it_promises(self):
        for seed in range(400):
            sets = drawn_sets(seed)
            row = greedy(sets)
            for k in range(1, len(sets) + 1):
                have = len(all_numbers([sets[at] for at in row[:k]]))
                most = max(len(all_numbers([sets[at] for at in chosen])) for chosen in combinations(range(len(sets)), k))
                # Whole numbers only: n * (k^k - (k - 1)^k) / k^k.
                self.assertGreaterEqual(have * k ** k, most * (k ** k - (k - 1) ** k))

    def test_ties_and_edges(self):
        self.assertEqual(greedy(()), ())
        self.assertEqual(greedy(((), ())), ())
        self.assertEqual(greedy(((1,), (2,), (1,))), (0, 1))
        self.assertEqual(greedy(((1,), (2, 3), (3, 4), (1, 4))), (1, 3))
        self.assertEqual(greedy(((1, 2), (3, 4), (1, 3, 5), (2, 4))), (2, 3))


if __name__ == "__main__":
    unittest.main()
