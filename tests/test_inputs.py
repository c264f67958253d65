"""Full inputs, and what runs show."""

import unittest

from helping import error_of, program_of, units_of
from making import made_program
from metorshut.bounds import BOUNDS
from metorshut.inputs import inputs_of, pairs_of, shown_of
from metorshut.programs import declared
from metorshut.runs import Machine
from metorshut.treeruns import run_tree
from metorshut.words import all_words
from plainrun import plain_report
from rich import rich_program

ASK = "external ask ( a : 2 ) : 2 needs a != 0#2 gives result != a ; "
SAME = "external same ( a : 1 ) : 1 steady needs 1#1 gives 1#1 ; "


def searched(program, unit, bounds):
    """All full inputs: each answer is any word; runs tell which of them fit."""
    found = []
    for args in all_words([kind for _, kind in declared(program, unit)[2]]):
        waiting = [()]
        while waiting:
            answers = waiting.pop()
            report = plain_report(program, unit, args, answers, bounds)
            if report == "BadInput answers":
                continue
            if report[3][0] == "asks":
                waiting += [(*answers, word) for word in range(8)]
            else:
                found.append((args, answers))
    return sorted(found)


class Inputs(unittest.TestCase):
    def test_random_programs_against_a_plain_search(self):
        asked = 0
        for seed in range(220):
            program = (rich_program if seed % 2 else made_program)(seed)
            bounds = ((24, 4, 4, 5), (12, 3, 1, 6), (32, 4, 4, 4))[seed % 3]
            for unit in units_of(program, bounds):
                found = list(inputs_of(program, unit, bounds))
                self.assertEqual(found, searched(program, unit, bounds), (seed, unit))
                self.assertEqual(found, sorted(set(found)))
                asked += any(answers for _, answers in found)
        self.assertGreater(asked, 20)

    def test_each_answer_that_is_let(self):
        program = program_of(ASK + "entry function main ( x : 2 ) : 2 { call x = ask ( x ) ; return x ; }")
        self.assertEqual(
            list(inputs_of(program, "main")),
            [((0,), ()), *[((x,), (y,)) for x in (1, 2, 3) for y in range(4) if y != x]],
        )

    def test_steady_answers(self):
        program = program_of(SAME + "entry function main ( x : 1 ) : 1 { call same ( x ) ; call same ( 0#1 ) ; }")
        self.assertEqual(
            list(inputs_of(program, "main")),
            [((0,), (0, 0)), ((0,), (1, 1)), ((1,), (0, 0)), ((1,), (0, 1)), ((1,), (1, 0)), ((1,), (1, 1))],
        )

    def test_answers_of_several_lengths_are_ordered(self):
        text = ("external e ( ) : 1 needs 1#1 gives 1#1 ; entry function main ( ) : 1 { var x : 1 ; "
                "call x = e ( ) ; if x == 0#1 { call x = e ( ) ; } return x ; }")
        found = list(inputs_of(program_of(text), "main"))
        self.assertEqual(found, [((), (0, 0)), ((), (0, 1)), ((), (1,))])

    def test_units_of_no_bits(self):
        program = program_of("entry function main ( ) : 1 { call help ( ) ; } function help ( ) : 1 { raise ouch ; }")
        self.assertEqual(list(inputs_of(program, "main", (24, 4, 4, 0))), [((), ())])
        self.assertEqual(list(inputs_of(program, "help", (24, 4, 4, 0))), [((), ())])

    def test_an_ask_for_which_no_bits_are_left_is_cut(self):
        program = program_of(ASK + "entry function main ( x : 2 ) : 2 { call x = ask ( 1#2 ) ; return x ; }")
        self.assertEqual(list(inputs_of(program, "main", (24, 4, 4, 3))), [((x,), ()) for x in range(4)])
        self.assertEqual(len(list(inputs_of(program, "main", (24, 4, 4, 4)))), 12)

    def test_runs_that_are_cut_by_steps(self):
        program = program_of(ASK + "entry function main ( x : 2 ) : 2 { call x = ask ( 1#2 ) ; call ask ( x ) ; }")
        # The look and the answer are steps; then there is none left for the second look.
        self.assertEqual(list(inputs_of(program, "main", (2, 4, 4, 8)))[:3], [((0,), (0,)), ((0,), (2,)), ((0,), (3,))])
        self.assertEqual(list(inputs_of(program, "main", (1, 4, 4, 8))), [((x,), ()) for x in range(4)])

    def test_two_at_once(self):
        program = program_of(ASK + "entry function main ( x : 2 ) : 2 { call x = ask ( x ) ; return x ; }")
        whole = list(inputs_of(program, "main"))
        one, other = inputs_of(program, "main"), inputs_of(program, "main")
        mixed = [next(one), next(one), next(other), next(one)]
        self.assertEqual(mixed, [whole[0], whole[1], whole[0], whole[2]])
        self.assertEqual(list(other), whole[1:])
        self.assertEqual(list(one), whole[3:])

    def test_the_default_bounds(self):
        program = program_of("entry function main ( x : 4 , y : 4 ) : 1 { }")
        self.assertEqual(list(inputs_of(program, "main")), list(inputs_of(program, "main", BOUNDS)))
        self.assertEqual(len(list(inputs_of(program, "main"))), 256)


class FirstErrors(unittest.TestCase):
    """What is raised where several things are wrong; and the same machine goes on as before."""

    TEXT = ASK + "entry function main ( x : 2 , y : 2 ) : 2 { call x = ask ( x ) ; return x + y ; }"

    def setUp(self):
        self.program = program_of(self.TEXT)
        self.machine = Machine(self.program)

    def errors(self, args, answers, bounds):
        told = [
            error_of(run_tree, self.program, "main", args, answers, bounds),
            error_of(self.machine.run, "main", args, answers, bounds),
            error_of(lambda: self.machine.start("main", args, bounds)),
            error_of(lambda: next(inputs_of(self.program, "main", bounds))),
        ]
        good = ("run", (("ask", 0, 1),), (("ask", (1,)),), ("returns", 3), ("ask", "main"))
        self.assertEqual(self.machine.run("main", (1, 1), (2,)), good)
        return told

    def test_bounds_go_first(self):
        for bounds in ((0, 4, 4, 8), (24, 9, 4, 8), (24, 4, 9, 3), (24, 4, 4, 13), (24, 4, 4), (24, 4, 4, True), None):
            for args, answers in (((1, 1), (2,)), ((4, 1), (2,)), ((1,), (1,)), ((1, 1), (1, 2, 3))):
                self.assertEqual(self.errors(args, answers, bounds), [("BadBounds",)] * 4)

    def test_then_widths(self):
        for args, answers in (((1, 1), (2,)), ((4, 1), (2,)), ((1,), (1,)), ((1, 1), (1, 2, 3))):
            self.assertEqual(self.errors(args, answers, (24, 4, 4, 3)), [("TooWide", "main")] * 4)

    def test_then_args(self):
        for args in ((4, 1), (1, -1), (1,), (1, 1, 1), ()):
            for answers in ((2,), (1,), (2, 2), ()):
                told = self.errors(args, answers, BOUNDS)
                self.assertEqual(told, [("BadInput", "args")] * 3 + [None])

    def test_then_answers(self):
        for args, answers in (((1, 1), (1,)), ((1, 1), (4,)), ((1, 1), (-1,)), ((1, 1), (2, 2)), ((0, 1), (2,))):
            told = self.errors(args, answers, BOUNDS)
            self.assertEqual(told, [("BadInput", "answers")] * 2 + [None, None])

    def test_nothing_is_raised(self):
        self.assertEqual(self.errors((1, 1), (2,), BOUNDS), [None] * 4)
        self.assertEqual(self.errors((1, 1), (), BOUNDS), [None] * 4)
        self.assertEqual(self.errors((0, 3), (), (24, 4, 4, 4)), [None] * 4)


class Shown(unittest.TestCase):
    REPORT = ("run", (("f", 0, 1), ("g", 0, 0), ("f", 0, 1), ("g", 0, 0), ("g", 0, 0)), (("e", (1,)),),
              ("returns", 3), ("e", "f", "g"))

    def test_shown(self):
        self.assertEqual(shown_of(self.REPORT), ((("e", (1,)),), ("returns", 3)))

    def test_pairs(self):
        f, g = ("f", 0, 1), ("g", 0, 0)
        self.assertEqual(pairs_of(self.REPORT), ((f, g), (g, f), (g, g)))

    def test_few_ways(self):
        for ways in ((), (("f", 0, 1),)):
            self.assertEqual(pairs_of(("run", ways, (), ("returns", 0), ("f",))), ())

    def test_of_a_run(self):
        program = program_of(ASK + "entry function main ( x : 2 ) : 2 { "
                             "while x != 0#2 { call ask ( x ) ; let x = x - 1#2 ; } }")
        report = run_tree(program, "main", (2,), (0, 0))
        self.assertEqual(shown_of(report), ((("ask", (2,)), ("ask", (1,))), ("returns", 0)))
        loop, ask, end = ("main", 0, 1), ("ask", 0, 1), ("main", 0, 0)
        self.assertEqual(pairs_of(report), ((loop, ask), (ask, loop), (ask, end)))


if __name__ == "__main__":
    unittest.main()
