"""Facts about rows of words."""

import random
import unittest
from itertools import combinations, product

from helping import name, word
from metorshut.facts import facts_of, holds
from metorshut.kinds import kind_in
from metorshut.scopes import Scope
from plainrun import plain_holds, power

X, Y, Z = name("x"), name("y"), name("z")


def forms_of(names):
    """All facts of the forms of point 51, the pairs of names in order."""
    for given, width in names:
        values = range(power(width))
        place = name(given)
        for mask, value in product(values, values):
            yield ("==", ("&", place, word(mask, width)), word(value, width))
        for value in values:
            yield ("<=", word(value, width), place)
            yield ("<=", place, word(value, width))
    for (one, width), (two, other) in combinations(names, 2):
        if width == other:
            yield from sides(name(one), name(two))


def sides(one, two):
    return [("==", one, two), ("!=", one, two), ("<", one, two), ("<=", one, two), ("<", two, one), ("<=", two, one)]


def plain_facts(names, rows):
    """The facts, each one looked for among all of its form."""
    def always(fact):
        return all(plain_holds(names, row, fact) for row in rows)

    found = []
    for given, width in names:
        place, values = name(given), range(power(width))
        bits = [("==", ("&", place, word(mask, width)), word(value, width)) for mask in values for value in values]
        found.append([fact for fact in bits if always(fact)][-1])
        found.append([fact for fact in [("<=", word(value, width), place) for value in values] if always(fact)][-1])
        found.append([fact for fact in [("<=", place, word(value, width)) for value in values] if always(fact)][0])
    for (one, width), (two, other) in combinations(names, 2):
        if width == other:
            found += [fact for fact in sides(name(one), name(two)) if always(fact)]
    return tuple(found)


def drawn(seed):
    dice = random.Random(seed)
    names = tuple((given, dice.choice((1, 2, 2))) for given in "xyz"[:dice.randrange(4)])
    rows = tuple(tuple(dice.randrange(power(width)) for _, width in names) for _ in range(dice.choice((1, 2, 3, 6))))
    return names, rows


class Facts(unittest.TestCase):
    def test_against_all_facts_of_each_form(self):
        for seed in range(150):
            names, rows = drawn(seed)
            found = facts_of(names, rows)
            self.assertEqual(found, plain_facts(names, rows), (names, rows))
            for fact in found:
                self.assertTrue(all(holds(names, row, fact) for row in rows))

    def test_what_holds_follows_from_them(self):
        """Each fact of these forms that holds for all rows holds for each row for which the facts do."""
        for seed in range(40):
            names, rows = drawn(seed)
            found = facts_of(names, rows)
            others = [row for row in product(*[range(power(width)) for _, width in names])
                      if all(holds(names, row, fact) for fact in found)]
            self.assertLessEqual(set(rows), set(others))
            for fact in forms_of(names):
                if all(holds(names, row, fact) for row in rows):
                    self.assertTrue(all(holds(names, row, fact) for row in others), fact)

    def test_one_row(self):
        self.assertEqual(facts_of((("x", 2), ("y", 2)), ((1, 3),)), (
            ("==", ("&", X, word(3, 2)), word(1, 2)), ("<=", word(1, 2), X), ("<=", X, word(1, 2)),
            ("==", ("&", Y, word(3, 2)), word(3, 2)), ("<=", word(3, 2), Y), ("<=", Y, word(3, 2)),
            ("!=", X, Y), ("<", X, Y), ("<=", X, Y),
        ))

    def test_bits(self):
        self.assertEqual(facts_of((("x", 3),), ((1,), (5,)))[0], ("==", ("&", X, word(3, 3)), word(1, 3)))
        self.assertEqual(facts_of((("x", 3),), ((1,), (6,)))[0], ("==", ("&", X, word(0, 3)), word(0, 3)))
        self.assertEqual(facts_of((("x", 8),), ((255,), (251,)))[0], ("==", ("&", X, word(251, 8)), word(251, 8)))

    def test_several_rows(self):
        self.assertEqual(facts_of((("x", 2), ("y", 2)), ((0, 0), (2, 3)))[6:], (("<=", X, Y),))
        self.assertEqual(facts_of((("x", 2), ("y", 2)), ((0, 0), (3, 3)))[6:],
                         (("==", X, Y), ("<=", X, Y), ("<=", Y, X)))
        self.assertEqual(facts_of((("x", 2), ("y", 2)), ((1, 0), (0, 3)))[6:], (("!=", X, Y),))
        self.assertEqual(facts_of((("x", 2), ("y", 2)), ((1, 0), (3, 2)))[6:],
                         (("!=", X, Y), ("<", Y, X), ("<=", Y, X)))
        self.assertEqual(facts_of((("x", 2), ("y", 2)), ((1, 0), (2, 2)))[6:], (("<=", Y, X),))
        self.assertEqual(facts_of((("x", 2), ("y", 2)), ((1, 0), (2, 2), (0, 1)))[6:], ())

    def test_equal_rows(self):
        names = (("x", 2), ("y", 3))
        self.assertEqual(facts_of(names, ((1, 3), (1, 3))), facts_of(names, ((1, 3),)))

    def test_names_of_several_widths(self):
        names = (("x", 2), ("y", 3), ("z", 2), ("w", 3))
        found = facts_of(names, ((1, 1, 1, 2),))[12:]
        self.assertEqual(found, (("==", X, Z), ("<=", X, Z), ("<=", Z, X),
                                 ("!=", Y, name("w")), ("<", Y, name("w")), ("<=", Y, name("w"))))
        three = (("x", 1), ("y", 1), ("z", 1))
        pairs = [fact[1:] for fact in facts_of(three, ((0, 0, 0),))[9:] if fact[0] == "=="]
        self.assertEqual(pairs, [(X, Y), (X, Z), (Y, Z)])

    def test_no_names(self):
        self.assertEqual(facts_of((), ((),)), ())
        self.assertEqual(facts_of((), ((), ())), ())

    def test_they_are_exprs_of_width_1(self):
        names = (("x", 2), ("y", 2))
        scope = Scope({}, ())
        scope.kinds.update(dict(names))
        for fact in facts_of(names, ((1, 2), (0, 3))):
            self.assertEqual(kind_in(scope, fact), 1)

    def test_arguments_are_not_changed(self):
        names, rows = (("x", 2),), ((1,), (2,))
        facts_of(names, rows)
        self.assertEqual((names, rows), ((("x", 2),), ((1,), (2,))))


class Holds(unittest.TestCase):
    def test_each_form(self):
        names = (("x", 2), ("y", 2))
        for row in product(range(4), range(4)):
            for fact in forms_of(names):
                self.assertIs(holds(names, row, fact), plain_holds(names, row, fact))

    def test_rows_that_are_not_among_them(self):
        names = (("x", 2), ("y", 2))
        facts = facts_of(names, ((0, 1), (1, 3)))
        held = [row for row in product(range(4), range(4)) if all(holds(names, row, fact) for fact in facts)]
        self.assertEqual(held, [(0, 1), (0, 3), (1, 3)])


if __name__ == "__main__":
    unittest.main()
