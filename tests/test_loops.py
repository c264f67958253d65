"""Counting loops."""

import random
import unittest

from helping import program_of
from metorshut.inputs import inputs_of
from metorshut.loops import counting_loops, left_with, turns
from metorshut.treeruns import run_tree

HEAD = "function f ( x : 4 , y : 4 , z : 4 , w : 3 , p : 1 ) : 4 { "


def shapes(body):
    return counting_loops(program_of(HEAD + body + " }"), "f")


def go_round(shape, limit, words):
    """How often the block is done, and the words behind it, one statement after the other; None if without end."""
    _, _, x, op, _, changes = shape
    words = dict(zip([name for name, _, _ in changes], words))
    seen, many = set(), 0
    while {"<": words[x] < limit, "<=": words[x] <= limit, "!=": words[x] != limit}[op]:
        if tuple(words.values()) in seen:
            return None, None
        seen.add(tuple(words.values()))
        for name, width, change in changes:
            words[name] = (words[name] + change) % 2 ** width
        many += 1
    return many, tuple(words.values())


class Shapes(unittest.TestCase):
    def is_counting(self, told, loop):
        """Whether a loop is a counting one, with this op, limit and changes."""
        self.assertEqual(shapes(loop), (("counting", 0, *told),) if told else (), loop)

    def test_counting_ones(self):
        for op in ("<", "<=", "!="):
            self.is_counting(("x", op, ("word", 9, 4), (("x", 4, 1),)), f"while x {op} 9#4 {{ let x = x + 1#4 ; }}")
            self.is_counting(("x", op, ("name", "y"), (("x", 4, 13),)), f"while x {op} y {{ let x = x - 3#4 ; }}")

    def test_several_changes(self):
        self.is_counting(
            ("x", "<", ("name", "z"), (("y", 4, 14), ("x", 4, 2), ("w", 3, 7), ("p", 1, 1))),
            "while x < z { let y = y - 2#4 ; let x = x + 2#4 ; let w = w + 7#3 ; let p = p - 1#1 ; }",
        )

    def test_a_change_of_nought(self):
        self.is_counting(("x", "<", ("name", "z"), (("x", 4, 0),)), "while x < z { let x = x + 0#4 ; }")
        self.is_counting(("x", "<", ("name", "z"), (("x", 4, 0),)), "while x < z { let x = x - 0#4 ; }")

    def test_tests_of_another_kind(self):
        for test in ("x == 9#4", "9#4 < x", "z < x + 1#4", "~ x < z", "x < z + 1#4", "p", "( x < z ) & p", "x < - z",
                     "wide ( x , 4 ) < z", "1#1", "9#4 <= 9#4", "x < wide ( z , 4 )"):
            self.is_counting(None, "while " + test + " { let x = x + 1#4 ; }")

    def test_a_limit_that_changes(self):
        self.is_counting(None, "while x < z { let x = x + 1#4 ; let z = z + 1#4 ; }")
        self.is_counting(None, "while x < z { let x = x + 1#4 ; let z = z + 0#4 ; }")
        self.is_counting(None, "while x < x { let x = x + 1#4 ; }")
        self.is_counting(("x", "<", ("name", "z"), (("x", 4, 1), ("y", 4, 1))),
                         "while x < z { let x = x + 1#4 ; let y = y + 1#4 ; }")

    def test_what_is_counted_must_change(self):
        self.is_counting(None, "while x < z { let y = y + 1#4 ; }")
        self.is_counting(None, "while x < z { }")

    def test_two_statements_for_one_variable(self):
        self.is_counting(None, "while x < z { let x = x + 1#4 ; let x = x + 1#4 ; }")
        self.is_counting(None, "while x < z { let y = y + 1#4 ; let x = x + 1#4 ; let y = y + 1#4 ; }")

    def test_other_statements(self):
        for more in ("let y = z ;", "let y = x + 1#4 ;", "let y = 1#4 + y ;", "let y = y * 2#4 ;", "let y = y + z ;",
                     "let y = y + 1#4 + 1#4 ;", "let y = - y ;", "let y = y ^ 1#4 ;", "call f ( x , y , z , w , p ) ;",
                     "if p { }", "assert p ;", "raise ouch ;", "return x ;", "while p { let p = p + 1#1 ; }",
                     "try { } catch ouch { }", "let y = y - - 1#4 ;"):
            for body in ("let x = x + 1#4 ; " + more, more + " let x = x + 1#4 ;"):
                found = shapes("while x < z { " + body + " }")
                self.assertEqual([shape for shape in found if shape[2] == "x"], [], body)

    def test_items_and_fields(self):
        text = ("record box { v : 4 ; } function f ( x : 4 , b : box ) : 4 { var a : 4 [ 2 ] ; "
                "while x < 9#4 { let x = x + 1#4 ; let a [ 0#1 ] = a [ 0#1 ] + 1#4 ; } "
                "while x < b . v { let x = x + 1#4 ; } while a [ 0#1 ] < x { let x = x + 1#4 ; } "
                "while b . v < x { let x = x + 1#4 ; } while x < 9#4 { let x = x + 1#4 ; let b . v = b . v + 1#4 ; } "
                "while b != null { let x = x + 1#4 ; } while x <= 3#4 { let x = x + 1#4 ; } }")
        found = counting_loops(program_of(text), "f")
        self.assertEqual([shape[3:5] for shape in found], [("<=", ("word", 3, 4))])

    def test_numbers(self):
        found = shapes("if p { while x < z { let x = x + 1#4 ; } } else { while y != 0#4 { let y = y - 1#4 ; } } "
                       "let x = div ( x , y ) ; while rem ( x , y ) < z { while w < 3#3 { let w = w + 1#3 ; } } "
                       "try { while x < z { let x = x + 1#4 ; } } catch zero { while p != 1#1 { let p = p + 1#1 ; } }")
        self.assertEqual([shape[1:3] for shape in found], [(1, "x"), (2, "y"), (6, "w"), (7, "x"), (8, "p")])

    def test_none(self):
        self.assertEqual(shapes(""), ())
        self.assertEqual(shapes("let x = x + 1#4 ;"), ())


class Turns(unittest.TestCase):
    def check(self, shape, limit, words):
        many, left = go_round(shape, limit, words)
        self.assertEqual(turns(shape, limit, words), many, (shape, limit, words))
        self.assertEqual(left_with(shape, limit, words), left, (shape, limit, words))
        return many

    def test_all_words_of_small_widths(self):
        endless = 0
        for width in (1, 2, 3):
            m = 2 ** width
            for op in ("<", "<=", "!="):
                for change in range(m):
                    for limit in range(m):
                        shape = ("counting", 0, "x", op, ("word", limit, width), (("x", width, change),))
                        for word in range(m):
                            endless += self.check(shape, limit, (word,)) is None
        self.assertGreater(endless, 50)

    def test_several_variables(self):
        dice = random.Random(4)
        for _ in range(400):
            widths = [dice.randint(1, 4) for _ in range(dice.randint(2, 4))]
            changes = tuple((f"v{at}", width, dice.randrange(1 << width)) for at, width in enumerate(widths))
            at = dice.randrange(len(widths))
            limit = dice.randrange(1 << widths[at])
            shape = ("counting", 3, f"v{at}", dice.choice(("<", "<=", "!=")), ("name", "z"), changes)
            self.check(shape, limit, tuple(dice.randrange(1 << width) for width in widths))

    def test_width_8(self):
        dice = random.Random(8)
        for _ in range(300):
            change = dice.choice((0, 1, 255, 128, 2, dice.randrange(256)))
            shape = ("counting", 0, "x", dice.choice(("<", "<=", "!=")), ("name", "z"),
                     (("y", 8, dice.randrange(256)), ("x", 8, change)))
            self.check(shape, dice.choice((0, 255, dice.randrange(256))), (dice.randrange(256), dice.randrange(256)))
        shape = ("counting", 0, "x", "!=", ("word", 0, 8), (("x", 8, 1),))
        self.assertEqual(turns(shape, 0, (1,)), 255)
        self.assertEqual(turns(shape, 0, (0,)), 0)
        self.assertEqual(left_with(shape, 0, (1,)), (0,))

    def test_without_end(self):
        shape = ("counting", 0, "x", "<=", ("word", 15, 4), (("x", 4, 1), ("y", 4, 3)))
        self.assertIsNone(turns(shape, 15, (3, 4)))
        self.assertIsNone(left_with(shape, 15, (3, 4)))
        shape = ("counting", 0, "x", "!=", ("word", 1, 4), (("x", 4, 2),))
        self.assertIsNone(turns(shape, 1, (0,)))
        self.assertEqual(turns(shape, 1, (3,)), 7)

    def test_not_at_all(self):
        shape = ("counting", 0, "x", "<", ("word", 3, 4), (("y", 4, 5), ("x", 4, 1)))
        self.assertEqual(turns(shape, 3, (9, 3)), 0)
        self.assertEqual(left_with(shape, 3, (9, 3)), (9, 3))

    def test_against_runs(self):
        text = ("entry function main ( x : 3 , y : 3 , z : 2 ) : 3 { while x != y { let z = z - 1#2 ; let x = x + 2#3 ; } "
                "return x + wide ( z , 3 ) ; }")
        program = program_of(text)
        shape, = counting_loops(program, "main")
        for (x, y, z), _ in inputs_of(program, "main", (32, 1, 0, 8)):
            outcome = run_tree(program, "main", (x, y, z), (), (32, 1, 0, 8))[3]
            left = left_with(shape, y, (z, x))
            self.assertEqual(outcome, ("endless",) if left is None else ("returns", (left[1] + left[0]) % 8))


if __name__ == "__main__":
    unittest.main()
