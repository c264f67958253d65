"""The goals of entries, and which runs meet them."""

import unittest

from drawing import drawn_units
from helping import error_of, program_of
from metorshut.closures import closure_of, looks_of
from metorshut.goals import KINDS, goals_of, meets
from metorshut.inputs import inputs_of, pairs_of
from metorshut.mutating import mutants_of
from metorshut.programs import declared
from metorshut.treeruns import run_tree

TEXT = ("record box { v : 2 ; } function unused ( x : 2 ) : 2 { raise never ; } "
        "function help ( x : 2 ) : 2 { if x == 0#2 { raise ouch ; } return div ( 3#2 , x ) ; } "
        "entry function main ( x : 2 ) : 2 { var b : box ; make b = box ; let b . v = x ; call x = ask ( x ) ; "
        "try { call x = help ( x ) ; raise bad ; } catch bad { } return x ; } "
        "external ask ( a : 2 ) : 2 needs a != 0#2 gives 1#1 ;")


class Goals(unittest.TestCase):
    def setUp(self):
        self.program = program_of(TEXT)

    def test_kinds(self):
        self.assertEqual(KINDS, ("ways", "pairs", "ends", "mutants"))

    def test_ways(self):
        places = [("help", 0), ("help", 1), ("main", 0), ("ask", 0)]
        told = tuple(("way", *place, bit) for place in places for bit in (1, 0))
        self.assertEqual(goals_of(self.program, "main", "ways"), told)

    def test_pairs(self):
        ways = [goal[1:] for goal in goals_of(self.program, "main", "ways")]
        told = tuple(("pair", one, other) for one in ways for other in ways)
        self.assertEqual(goals_of(self.program, "main", "pairs"), told)
        self.assertEqual(told[1], ("pair", ("help", 0, 1), ("help", 0, 0)))

    def test_ends(self):
        names = ("bad", "duty", "nothing", "ouch", "zero")
        told = (("end", "returns"), ("end", "endless"), *[("end", "raises", name) for name in names])
        self.assertEqual(goals_of(self.program, "main", "ends"), told)
        self.assertEqual(goals_of(self.program, "help", "ends"),
                         (("end", "returns"), ("end", "endless"), ("end", "raises", "ouch"), ("end", "raises", "zero")))

    def test_names_of_faults_that_are_raised(self):
        program = program_of("entry function main ( ) : 1 { var a : 1 [ 1 ] ; assert a [ 0#1 ] ; raise index ; }")
        self.assertEqual(goals_of(program, "main", "ends")[2:], (("end", "raises", "claim"), ("end", "raises", "index")))
        program = program_of("entry function main ( ) : 1 { if 1#1 { } while 1#1 { } }")
        self.assertEqual(goals_of(program, "main", "ends"), (("end", "returns"), ("end", "endless")))

    def test_mutants(self):
        told = []
        for name in ("help", "main"):
            told += [("mutant", name, number) for number in range(len(mutants_of(self.program, name)))]
        self.assertEqual(goals_of(self.program, "main", "mutants"), tuple(told))
        self.assertGreater(len(told), 10)

    def test_none(self):
        program = program_of("entry function main ( ) : 1 { }")
        for kind in ("ways", "pairs", "mutants"):
            self.assertEqual(goals_of(program, "main", kind), ())

    def test_too_many(self):
        def ways(many):
            """A program with so many looks."""
            return program_of("entry function main ( x : 1 ) : 1 { " + "if x { } " * many + "}")

        self.assertEqual(len(goals_of(ways(10), "main", "pairs")), 400)
        self.assertEqual(error_of(goals_of, ways(11), "main", "pairs"), ("TooMany", "goals"))
        self.assertEqual(len(goals_of(ways(11), "main", "ways")), 22)
        body = "let x = x ; " * 39
        parts = [f"function f{at} ( x : 1 ) : 1 {{ {body} call f{at + 1} ( x ) ; }} " for at in range(10)]
        program = program_of("".join(parts) + "function f10 ( x : 1 ) : 1 { return x ; }")
        self.assertEqual(len(goals_of(program, "f0", "mutants")), 400)
        program = program_of("".join(parts) + "function f10 ( x : 1 ) : 1 { raise a ; }")
        self.assertEqual(error_of(goals_of, program, "f0", "mutants"), ("TooMany", "goals"))
        self.assertEqual(len(goals_of(program, "f1", "mutants")), 361)

    def test_too_many_ways_and_ends(self):
        looks = "assert x & x ; " * 40
        parts = [f"function f{at} ( x : 1 ) : 1 {{ {looks} }} " for at in range(5)]
        calls = "".join(f"call f{at} ( x ) ; " for at in range(5))
        program = program_of("".join(parts) + "entry function main ( x : 1 ) : 1 { " + calls + " }")
        self.assertEqual(len(goals_of(program, "main", "ways")), 400)
        program = program_of("".join(parts) + "entry function main ( x : 1 ) : 1 { " + calls + " assert x ; }")
        self.assertEqual(error_of(goals_of, program, "main", "ways"), ("TooMany", "goals"))


class Meeting(unittest.TestCase):
    REPORT = ("run", (("f", 0, 1), ("f", 1, 0), ("f", 0, 1), ("g", 0, 0)), (), ("raises", "zero"), ("f", "g"))

    def met(self, told, *goal):
        self.assertIs(meets(goal, self.REPORT), told, goal)

    def test_ways(self):
        self.met(True, "way", "f", 0, 1)
        self.met(True, "way", "g", 0, 0)
        self.met(False, "way", "f", 0, 0)
        self.met(False, "way", "f", 1, 1)
        self.met(False, "way", "g", 1, 0)

    def test_pairs(self):
        one, two, three = ("f", 0, 1), ("f", 1, 0), ("g", 0, 0)
        self.met(True, "pair", one, two)
        self.met(True, "pair", two, one)
        self.met(True, "pair", one, three)
        self.met(False, "pair", two, three)
        self.met(False, "pair", one, one)
        self.met(False, "pair", three, one)

    def test_ends(self):
        self.met(True, "end", "raises", "zero")
        self.met(False, "end", "raises", "ouch")
        self.met(False, "end", "returns")
        self.met(False, "end", "endless")
        for outcome, told in ((("returns", 3), (True, False, False)), (("endless",), (False, True, False)),
                              (("cut", "steps"), (False, False, False)), (("asks", "e", (1,)), (False, False, False))):
            report = (*self.REPORT[:3], outcome, self.REPORT[4])
            goals = (("end", "returns"), ("end", "endless"), ("end", "raises", "zero"))
            self.assertEqual(tuple(meets(goal, report) for goal in goals), told)

    def test_drawn_programs(self):
        """The goals that runs meet are those of the ways, pairs and ends of the runs."""
        for seed, program, unit, bounds in drawn_units(0, 90):
            closure = closure_of(program, unit)
            ways = [(name, number, bit) for name in closure if declared(program, name)[0] != "record"
                    for number in range(len(looks_of(program, name))) for bit in (1, 0)]
            goals = goals_of(program, unit, "ways")
            self.assertEqual([goal[1:] for goal in goals], ways)
            ends = goals_of(program, unit, "ends")
            pairs = goals_of(program, unit, "pairs") if len(ways) <= 20 else ()
            for args, answers in list(inputs_of(program, unit, bounds))[::4]:
                report = run_tree(program, unit, args, answers, bounds)
                self.assertEqual([goal[1:] for goal in goals if meets(goal, report)],
                                 [way for way in ways if way in report[1]])
                met = [goal for goal in ends if meets(goal, report)]
                told = [] if report[3][0] == "cut" else [("end", *report[3][:1 if report[3][0] == "returns" else 2])]
                self.assertEqual(met, told)
                if pairs:
                    self.assertEqual({goal[1:] for goal in pairs if meets(goal, report)}, set(pairs_of(report)))


if __name__ == "__main__":
    unittest.main()
