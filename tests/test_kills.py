"""Matrices of mutants, and mutants that imply others."""

import random
import unittest

from drawing import drawn_units
from helping import error_of, program_of
from metorshut.closures import closure_of
from metorshut.kills import implied, matrix_of
from metorshut.mutating import mutants_of, with_mutant
from metorshut.programs import declared
from metorshut.suites import suite_of
from plainrun import plain_report
from plainsuites import PlainSuites
from plainwalk import args_of

ASK = "external ask ( a : 2 ) : 2 needs 1#1 gives result != a ; "


class Matrices(unittest.TestCase):
    def test_against_all_walks(self):
        rows = 0
        for seed, program, unit, bounds in drawn_units(0, 60, (4,)):
            plain = PlainSuites(program, unit, bounds)
            suite = suite_of(program, unit, "mutants", bounds)
            goals = [goal for goal, _ in suite]
            told = tuple((tried, tuple(sorted(goals.index(goal) for goal in met)))
                         for tried, met in sorted(plain.met_by_each("mutants", suite).items()))
            self.assertEqual(matrix_of(program, unit, bounds), told, (seed, unit))
            rows += len(told) > 1
        self.assertGreater(rows, 10)

    def test_a_plain_one(self):
        program = program_of("entry function main ( x : 2 ) : 2 { if x < 2#2 { let x = x + 1#2 ; } return x ; }")
        # Negated, <=, the word 3, left out, -, the word 2.
        self.assertEqual(matrix_of(program, "main"), ((((0,), ()), (0, 3, 4, 5)), (((2,), ()), (0, 1, 2))))

    def test_no_rows(self):
        self.assertEqual(matrix_of(program_of("entry function main ( ) : 1 { }"), "main"), ())
        self.assertEqual(matrix_of(program_of("entry function main ( x : 1 ) : 1 { let x = x ; }"), "main"), ())

    def test_answers(self):
        program = program_of(ASK + "entry function main ( ) : 2 { var x : 2 ; call x = ask ( 0#2 ) ; "
                             "if x == 3#2 { return 1#2 ; } return 2#2 ; }")
        # Left out, and another word asked with: these walks end ahead of the answer.
        self.assertEqual(matrix_of(program, "main"), (
            (((), ()), (0, 1)), (((), (1,)), (0, 1, 2, 3, 6)), (((), (3,)), (0, 1, 2, 3, 4, 5)),
        ))

    def test_errors(self):
        program = program_of("entry function main ( x : 2 ) : 2 { return x ; }")
        self.assertEqual(error_of(matrix_of, program, "main", (24, 4, 4, 1)), ("TooWide", "main"))
        self.assertEqual(error_of(matrix_of, program, "main", (24, 4, 4, 13)), ("BadBounds",))
        body = "let x = x ; " * 39
        parts = [f"function f{at} ( x : 1 ) : 1 {{ {body} call f{at + 1} ( x ) ; }} " for at in range(11)]
        program = program_of("".join(parts) + "function f11 ( x : 1 ) : 1 { return x ; }")
        self.assertEqual(error_of(matrix_of, program, "f0"), ("TooMany", "goals"))


class Implied(unittest.TestCase):
    def outcomes(self, program, one, two, unit, bounds):
        """For all arguments the outcomes of the program and of both mutants."""
        programs = (program, with_mutant(program, *one), with_mutant(program, *two))
        for args in args_of(program, unit):
            yield args, [plain_report(part, unit, args, (), bounds)[3] for part in programs]

    def test_against_runs_of_all_arguments(self):
        none = some = 0
        for seed, program, unit, bounds in drawn_units(0, 110, (4, 5), asks=False):
            dice = random.Random(seed)
            names = [name for name in closure_of(program, unit) if declared(program, name)[0] == "function"]
            mutants = [(name, at) for name in names for at in range(len(mutants_of(program, name)))]
            for _ in range(6 if mutants else 0):
                one, two = dice.choice(mutants), dice.choice(mutants)
                told = None
                for args, (shown, first, second) in self.outcomes(program, one, two, unit, bounds):
                    if "cut" not in (shown[0], first[0], second[0]) and first != shown and second == shown:
                        told = args
                        break
                self.assertEqual(implied(program, unit, one, two, bounds), told, (seed, unit, one, two))
                none += told is None and one != two
                some += told is not None
        self.assertGreater(min(none, some), 40)

    def test_plain_ones(self):
        program = program_of("entry function main ( x : 3 ) : 1 { if x < 4#3 { return 1#1 ; } return 0#1 ; }")
        # Negated (all words part), <= (4 does), the word 5 (4 does), the returned words 0 and 1 (0 to 3, 4 to 7).
        self.assertIsNone(implied(program, "main", ("main", 1), ("main", 0)))
        self.assertEqual(implied(program, "main", ("main", 0), ("main", 1)), (0,))
        self.assertIsNone(implied(program, "main", ("main", 1), ("main", 2)))
        self.assertEqual(implied(program, "main", ("main", 3), ("main", 4)), (0,))
        self.assertEqual(implied(program, "main", ("main", 4), ("main", 1)), (5,))
        self.assertEqual(implied(program, "main", ("main", 4), ("main", 3)), (4,))

    def test_arguments_left_out(self):
        program = program_of("entry function main ( x : 2 ) : 2 { if x == 3#2 { call help ( ) ; } return x + 1#2 ; } "
                             "function help ( ) : 1 { raise ouch ; }")
        other_word, left_out, minus = ("main", 2), ("main", 3), ("main", 4)
        deep, flat = (24, 2, 4, 8), (24, 1, 4, 8)
        # The program is cut for 3.
        self.assertEqual(implied(program, "main", left_out, minus, deep), (3,))
        self.assertIsNone(implied(program, "main", left_out, minus, flat))
        # The first mutant is cut for 0.
        self.assertEqual(implied(program, "main", other_word, left_out, deep), (0,))
        self.assertIsNone(implied(program, "main", other_word, left_out, flat))
        # The second mutant is cut for 0.
        self.assertEqual(implied(program, "main", minus, other_word, deep), (1,))
        self.assertEqual(implied(program, "main", minus, other_word, flat), (1,))
        # All are cut for all arguments.
        endless = program_of("entry function main ( x : 2 ) : 2 { call main ( x + 1#2 ) ; call main ( x ) ; }")
        for one in range(4):
            self.assertIsNone(implied(endless, "main", ("main", one), ("main", 1)))

    def test_asks(self):
        program = program_of(ASK + "function off ( ) : 1 { var y : 2 ; call y = ask ( 0#2 ) ; return 0#1 ; } "
                             "entry function main ( x : 2 ) : 1 { if x != x { call off ( ) ; } return 1#1 ; } "
                             "entry function other ( x : 2 ) : 1 { return 1#1 ; }")
        for bounds in ((24, 4, 4, 8), (24, 4, 4, 1)):
            # The text is what counts, also where a mutant takes the call out.
            for one in range(4):
                self.assertEqual(error_of(implied, program, "main", ("main", one), ("main", 2), bounds), ("HasAsks",))
            self.assertEqual(error_of(implied, program, "off", ("off", 0), ("off", 0), bounds), ("HasAsks",))
        self.assertIsNone(error_of(implied, program, "other", ("other", 0), ("main", 0)))
        self.assertEqual(error_of(implied, program, "other", ("other", 0), ("main", 0), (24, 4, 4, 1)),
                         ("TooWide", "other"))
        self.assertEqual(error_of(implied, program, "main", ("main", 0), ("main", 0), (24, 4, 4)), ("BadBounds",))


if __name__ == "__main__":
    unittest.main()
