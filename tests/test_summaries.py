"""Summaries of pure units, and runs that use them."""

import unittest

from drawing import drawn_units
from helping import error_of, program_of, units_of
from metorshut.books import book_of
from metorshut.bounds import BOUNDS
from metorshut.closures import is_pure
from metorshut.errors import LimitError
from metorshut.inputs import inputs_of
from metorshut.leaves import leaves_of
from metorshut.programs import declared
from metorshut.runs import Machine
from metorshut.sheets import judge_sheet
from metorshut.summaries import run_with, summary_of
from metorshut.treeruns import run_tree
from metorshut.values import value_of
from metorshut.words import all_words
from rich import rich_program

WIDE = (32, 8, 8, 8)
ASK = "external ask ( a : 2 ) : 2 needs a != 0#2 gives result != a ; "
FACT = ("function down ( n : 2 ) : 2 { var r : 2 ; if n == 0#2 { return 1#2 ; } call r = down ( n - 1#2 ) ; "
        "return r * n ; } ")


def told_by_events(program, unit, args, bounds):
    """The outcome, the ways, the names that are met, the steps and the depth of a run, as its events tell them."""
    run = Machine(program).start(unit, args, bounds)
    steps, depth, deepest = 0, 1, 1
    for event in run.events():
        if event[0] == "call":
            depth += 1
            deepest = max(deepest, depth)
        if event[0] == "back":
            depth -= 1
        elif event[0] == "call" or len(event) == 3:
            steps += 1
    _, ways, _, outcome, met = run.report
    return ways, met, steps, deepest, outcome


class Drawn(unittest.TestCase):
    def pure_units(self):
        for seed, program, unit, bounds in drawn_units(0, 350, (6, 8), asks=False, records=False):
            if is_pure(program, unit):
                yield seed, program, unit, bounds

    def test_cases(self):
        kinds = set()
        for seed, program, unit, bounds in self.pure_units():
            try:
                word, widths, nodes, cases = summary_of(program, unit, bounds)
            except LimitError:
                continue
            self.assertEqual((word, widths), ("summary", tuple(kind for _, kind in declared(program, unit)[2])))
            self.assertTrue(judge_sheet(nodes))
            for args in all_words(widths):
                fitting = [case for case in cases if value_of(nodes, args, case[0]) == 1]
                self.assertEqual(len(fitting), 1)
                _, ways, met, steps, depth, outcome = fitting[0]
                if outcome[0] == "returns":
                    outcome = ("returns", value_of(nodes, args, outcome[1]))
                told = told_by_events(program, unit, args, bounds)
                self.assertEqual((ways, met, steps, depth, outcome), told, (seed, unit, args))
                kinds.add(outcome[0])
            self.assertTrue(all(nodes[case[0]][1] == 1 for case in cases))
        self.assertEqual(kinds, {"returns", "raises", "endless"})

    def test_the_order_is_that_of_the_leaves(self):
        for seed, program, unit, bounds in self.pure_units():
            try:
                cases = summary_of(program, unit, bounds)[3]
            except LimitError:
                continue
            leaves = leaves_of(program, book_of(program, unit, bounds))
            self.assertEqual([case[1] for case in cases], [leaf[1] for leaf in leaves])

    def test_cuts(self):
        cut = 0
        for seed, program, unit, bounds in self.pure_units():
            first = None
            for args, _ in inputs_of(program, unit, bounds):
                outcome = run_tree(program, unit, args, (), bounds)[3]
                if outcome[0] == "cut" and first is None:
                    first = ("CutShort", outcome[1])
            cut += first is not None
            self.assertEqual(error_of(summary_of, program, unit, bounds), first, (seed, unit))
        self.assertGreater(cut, 30)

    def test_runs_with_summaries(self):
        used = 0
        for seed in range(250):
            program = rich_program(seed)
            summaries = []
            for one in program:
                if one[0] == "function" and is_pure(program, one[1]):
                    try:
                        summaries.append((one[1], summary_of(program, one[1], WIDE)))
                    except LimitError:
                        continue
            if not summaries:
                continue
            used += 1
            for bounds in ((32, 8, 4, 6), (9, 3, 4, 5), (5, 2, 1, 5), (14, 4, 0, 4)):
                for unit in units_of(program, bounds):
                    self.same_runs(program, unit, tuple(summaries), bounds)
        self.assertGreater(used, 60)

    def same_runs(self, program, unit, summaries, bounds):
        for args, answers in inputs_of(program, unit, bounds):
            for many in range(len(answers) + 1):
                told = run_tree(program, unit, args, answers[:many], bounds)
                self.assertEqual(run_with(program, unit, args, answers[:many], summaries, bounds), told)


class Summaries(unittest.TestCase):
    def test_a_plain_one(self):
        program = program_of("function half ( x : 2 ) : 2 { if x < 2#2 { raise low ; } return x >> 1#1 ; }")
        _, widths, nodes, cases = summary_of(program, "half")
        self.assertEqual(widths, (2,))
        self.assertEqual([case[1:] for case in cases[:1]], [((("half", 0, 1),), ("half",), 1, 1, ("raises", "low"))])
        self.assertEqual(cases[1][1:5], ((("half", 0, 0),), ("half",), 1, 1))
        self.assertEqual([value_of(nodes, (x,), cases[1][5][1]) for x in (2, 3)], [1, 1])
        self.assertEqual([value_of(nodes, (x,), cases[0][0]) for x in range(4)], [1, 1, 0, 0])

    def test_one_case(self):
        program = program_of("function one ( ) : 2 { return 1#2 ; }")
        _, widths, nodes, cases = summary_of(program, "one", (1, 1, 0, 0))
        self.assertEqual((widths, len(cases)), ((), 1))
        self.assertEqual(nodes[cases[0][0]], ("word", 1, 1))
        self.assertEqual(cases[0][1:5], ((), ("one",), 0, 1))
        self.assertEqual(nodes[cases[0][5][1]], ("word", 2, 1))

    def test_steps_and_depth(self):
        program = program_of(FACT)
        cases = summary_of(program, "down", (7, 4, 0, 2))[3]
        self.assertEqual([case[3:5] for case in cases], [(1, 1), (3, 2), (5, 3), (7, 4)])
        self.assertEqual(error_of(summary_of, program, "down", (6, 4, 0, 2)), ("CutShort", "steps"))
        self.assertEqual(error_of(summary_of, program, "down", (7, 3, 0, 2)), ("CutShort", "depth"))


class Errors(unittest.TestCase):
    def error(self, text, unit, bounds=BOUNDS):
        return error_of(summary_of, program_of(text), unit, bounds)

    def test_not_pure(self):
        ask = ASK + "function f ( x : 2 ) : 2 { if x != x { call x = ask ( x ) ; } return x ; } "
        self.assertEqual(self.error(ask, "f"), ("NotPure", "f"))
        self.assertEqual(self.error(ask + "function g ( ) : 1 { call f ( 0#2 ) ; }", "g"), ("NotPure", "g"))
        box = "record box { v : 2 ; } function f ( ) : 1 { var b : box ; }"
        self.assertEqual(self.error(box, "f"), ("NotPure", "f"))
        self.assertIsNone(self.error("function f ( ) : 1 { var b : 2 [ 3 ] ; }", "f"))
        # A declaration that nothing calls does not matter.
        self.assertIsNone(self.error(ASK + "function f ( ) : 1 { }", "f"))

    def test_too_wide(self):
        text = "function f ( x : 8 ) : 1 { while x != x { } }"
        self.assertEqual(self.error(text, "f", (24, 4, 4, 7)), ("TooWide", "f"))
        self.assertIsNone(self.error(text, "f", (24, 4, 4, 8)))

    def test_too_many_leaves(self):
        text = ("function f ( x : 8 ) : 8 { var m : 8 ; var s : 8 ; let m = 128#8 ; "
                "while m != 0#8 { if s + m <= x { let s = s + m ; } let m = m >> 1#1 ; } return s ; }")
        self.assertEqual(self.error(text, "f", (32, 4, 4, 8)), ("TooMany", "leaves"))
        # Fewer steps: fewer leaves, but all of them are cut.
        self.assertEqual(self.error(text, "f", (8, 4, 4, 8)), ("CutShort", "steps"))

    def test_the_cut_of_the_least_arguments(self):
        text = ("function f ( x : 2 ) : 2 { if x == 2#2 { call x = g ( x ) ; } if x == 1#2 { while x != 0#2 { "
                "let x = x + 2#2 ; let x = x - 1#2 ; } } if x == 3#2 { call x = g ( x ) ; } return x ; } "
                "function g ( x : 2 ) : 2 { call x = f ( x ) ; return x ; }")
        self.assertEqual(self.error(text, "f", (32, 2, 0, 2)), ("CutShort", "depth"))
        self.assertEqual(self.error(text, "f", (3, 2, 0, 2)), ("CutShort", "steps"))

    def test_the_order(self):
        many = "if x == 0#8 { raise a ; } while x != 0#8 { let x = x - 1#8 ; }"
        impure = "record box { } function f ( x : 8 ) : 1 { var b : box ; " + many + " }"
        pure = "function f ( x : 8 ) : 1 { " + many + " }"
        self.assertEqual(self.error(impure, "f", (32, 4, 4, 9, 1)), ("BadBounds",))
        self.assertEqual(self.error(impure, "f", (33, 4, 4, 7)), ("BadBounds",))
        self.assertEqual(self.error(impure, "f", (32, 4, 4, 7)), ("NotPure", "f"))
        self.assertEqual(self.error(pure, "f", (33, 4, 4, 7)), ("BadBounds",))
        self.assertEqual(self.error(pure, "f", (32, 4, 4, 7)), ("TooWide", "f"))
        self.assertEqual(self.error(pure, "f", (32, 4, 4, 8)), ("CutShort", "steps"))
        halves = ("function f ( x : 8 ) : 8 { var m : 8 ; var s : 8 ; let m = 128#8 ; while m != 0#8 { "
                  "if s + m <= x { let s = s + m ; } let m = m >> 1#1 ; } call s = f ( x ) ; return s ; }")
        # All runs are cut, and there are too many leaves.
        self.assertEqual(self.error(halves, "f", (32, 4, 4, 8)), ("TooMany", "leaves"))


class Using(unittest.TestCase):
    TEXT = FACT + ("entry function main ( x : 2 ) : 2 { var y : 2 ; if x != 0#2 { let y = 1#2 ; } "
                   "try { call y = down ( x ) ; } catch zero { return 3#2 ; } return y + 1#2 ; }")

    def same(self, program, unit, bounds, summaries):
        for args, answers in inputs_of(program, unit, bounds):
            told = run_tree(program, unit, args, answers, bounds)
            self.assertEqual(run_with(program, unit, args, answers, summaries, bounds), told, (args, bounds))

    def test_steps_and_depth_that_fit_or_do_not(self):
        program = program_of(self.TEXT)
        for own in ((7, 4, 0, 2), WIDE):
            summaries = (("down", summary_of(program, "down", own)),)
            # The look of main and the call are two steps, the steps of down are up to 7 of the depth 4.
            for steps in range(1, 12):
                for depth in range(1, 7):
                    self.same(program, "main", (steps, depth, 0, 2), summaries)
        ends = [run_with(program, "main", (3,), (), summaries, (steps, 5, 0, 2))[3] for steps in (8, 9, 10)]
        self.assertEqual(ends, [("cut", "steps"), ("returns", 3), ("returns", 3)])
        ends = [run_with(program, "main", (3,), (), summaries, (9, depth, 0, 2))[3] for depth in (4, 5, 6)]
        self.assertEqual(ends, [("cut", "depth"), ("returns", 3), ("returns", 3)])

    def test_it_uses_the_case(self):
        # A summary that tells something else shows that the call is not gone through.
        program = program_of("function f ( ) : 2 { return 1#2 ; } entry function main ( ) : 2 { var x : 2 ; "
                             "call x = f ( ) ; return x ; }")
        word, widths, nodes, cases = summary_of(program, "f")
        other = (word, widths, (*nodes, ("word", 2, 3)), ((*cases[0][:5], ("returns", len(nodes))),))
        self.assertEqual(run_with(program, "main", (), (), (("f", other),))[3], ("returns", 3))
        self.assertEqual(run_with(program, "main", (), (), ())[3], ("returns", 1))
        # It fits neither in one step nor in a depth of 1: then the rows tell how the run ends.
        self.assertEqual(run_with(program, "main", (), (), (("f", other),), (24, 1, 0, 0))[3], ("cut", "depth"))

    def test_raised_names(self):
        text = ("function f ( x : 2 ) : 2 { if x == 1#2 { raise zero ; } if x == 2#2 { raise ouch ; } "
                "return div ( 2#2 , x ) ; } function g ( x : 2 ) : 2 { call x = f ( x ) ; return x ; } "
                "entry function main ( x : 2 ) : 2 { try { try { call x = g ( x ) ; } catch ouch { return 3#2 ; } "
                "call x = f ( x ) ; } catch zero { return 2#2 ; } return x ; }")
        program = program_of(text)
        for names in (("f",), ("g",), ("f", "g"), ("f", "g", "main"), ("main",), ()):
            summaries = tuple((name, summary_of(program, name, WIDE)) for name in names)
            for steps in range(1, 14):
                for depth in (1, 2, 3, 4):
                    for unit in ("main", "f", "g"):
                        self.same(program, unit, (steps, depth, 0, 2), summaries)

    def test_endless_loops(self):
        text = ("function f ( x : 2 ) : 2 { while x == 1#2 { } return x ; } entry function main ( x : 2 , y : 2 ) : 2 { "
                "var z : 2 ; while z != 3#2 { call z = f ( y ) ; let z = z + x ; } return z ; }")
        program = program_of(text)
        summaries = (("f", summary_of(program, "f", WIDE)),)
        outcomes = set()
        for steps in (2, 3, 4, 5, 6, 9, 24, 32):
            self.same(program, "main", (steps, 2, 0, 4), summaries)
            for x in range(4):
                for y in range(4):
                    outcomes.add(run_with(program, "main", (x, y), (), summaries, (steps, 2, 0, 4))[3][0])
        self.assertEqual(outcomes, {"returns", "endless", "cut"})

    def test_with_asks_and_objects(self):
        text = (ASK + "record box { v : 2 ; } " + FACT + "entry function main ( x : 2 ) : 2 { var b : box ; "
                "make b = box ; call x = ask ( 1#2 ) ; let b . v = x ; call x = down ( b . v ) ; call x = ask ( x ) ; "
                "return x + b . v ; }")
        program = program_of(text)
        summaries = (("down", summary_of(program, "down", WIDE)),)
        for steps in range(1, 20):
            for bits in (2, 4, 6):
                self.same(program, "main", (steps, 8, 1, bits), summaries)
        report = run_with(program, "main", (1,), (2,), summaries, (24, 8, 1, 6))
        self.assertEqual(report[3], ("asks", "ask", (2,)))

    def test_errors(self):
        program = program_of(ASK + FACT + "entry function main ( x : 2 ) : 2 { call x = ask ( x ) ; "
                             "call x = down ( x ) ; return x ; }")
        summaries = (("down", summary_of(program, "down")),)

        def error(args, answers, bounds=BOUNDS):
            told = error_of(run_with, program, "main", args, answers, summaries, bounds)
            self.assertEqual(told, error_of(run_tree, program, "main", args, answers, bounds))
            return told

        self.assertEqual(error((4,), (1,), (0, 4, 4, 8)), ("BadBounds",))
        self.assertEqual(error((4,), (1,), (24, 4, 4, 1)), ("TooWide", "main"))
        self.assertEqual(error((4,), (1,)), ("BadInput", "args"))
        self.assertEqual(error((), (1,)), ("BadInput", "args"))
        self.assertEqual(error((1,), (1,)), ("BadInput", "answers"))
        self.assertEqual(error((1,), (2, 2)), ("BadInput", "answers"))
        self.assertEqual(error((0,), (2,)), ("BadInput", "answers"))
        self.assertIsNone(error((1,), (2,)))
        self.assertIsNone(error((1,), ()))

    def test_the_default_bounds(self):
        program = program_of(FACT)
        self.assertEqual(summary_of(program, "down"), summary_of(program, "down", BOUNDS))


if __name__ == "__main__":
    unittest.main()
