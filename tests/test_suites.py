"""Suites of goals, their tests, and the goals that inputs meet."""

import unittest

from drawing import drawn_units
from helping import error_of, program_of
from metorshut.bounds import BOUNDS
from metorshut.goals import KINDS, goals_of, meets
from metorshut.inputs import inputs_of
from metorshut.suites import met_by, suite_of, tests_of
from metorshut.treeruns import run_tree
from plainsuites import PlainSuites

ASK = "external ask ( a : 2 ) : 2 needs a != 0#2 gives result != a ; "


def ifs(many, body="", width=8):
    """The text of an entry with so many looks, each of which one word goes way 1."""
    parts = [f"if x == {at}#{width} {{ {body} }} " for at in range(many)]
    return f"entry function main ( x : {width} ) : 1 {{ var y : 1 ; {''.join(parts)} return y ; }}"


class Drawn(unittest.TestCase):
    def test_against_runs_of_all_full_inputs(self):
        seen = {}
        for seed, program, unit, bounds in drawn_units(0, 200, (4, 5, 6)):
            plain = PlainSuites(program, unit, bounds)
            for kind in KINDS[:3]:
                goals = plain.goals(kind)
                if goals is None:
                    self.assertEqual(error_of(suite_of, program, unit, kind, bounds), ("TooMany", "goals"))
                    continue
                suite = suite_of(program, unit, kind, bounds)
                self.assertEqual(suite, plain.suite(kind), (seed, unit, kind))
                for _, answer in suite:
                    seen[kind, answer[0]] = seen.get((kind, answer[0]), 0) + 1
                self.check_tests(plain, kind, suite)
        self.assertEqual(len(seen), 9)
        self.assertGreater(min(seen.values()), 100)

    def check_tests(self, plain, kind, suite):
        told = plain.tests(kind, suite)
        given = (plain.program, plain.unit, kind, plain.bounds)
        if told is None:
            self.assertEqual(error_of(tests_of, *given), ("TooMany", "classes"))
        else:
            self.assertEqual(tests_of(*given), told)

    def test_mutants_against_all_walks(self):
        seen = {}
        for seed, program, unit, bounds in drawn_units(0, 60, (4, 5)):
            plain = PlainSuites(program, unit, bounds)
            suite = suite_of(program, unit, "mutants", bounds)
            self.assertEqual(suite, plain.suite("mutants"), (seed, unit))
            self.check_tests(plain, "mutants", suite)
            for _, answer in suite:
                seen[answer[0]] = seen.get(answer[0], 0) + 1
        self.assertGreater(min(seen[word] for word in ("met", "open", "shut")), 150)

    def test_what_inputs_meet(self):
        for seed, program, unit, bounds in drawn_units(0, 60, (4, 5)):
            inputs = tuple(inputs_of(program, unit, bounds))
            for kind in KINDS[:3]:
                if error_of(goals_of, program, unit, kind):
                    continue
                goals = goals_of(program, unit, kind)
                for some in ((), inputs[:1], inputs[-1:] + inputs[:1], inputs[::-3], inputs):
                    reports = [run_tree(program, unit, *tried, bounds) for tried in some]
                    told = tuple(goal for goal in goals if any(meets(goal, report) for report in reports))
                    self.assertEqual(met_by(program, unit, kind, some, bounds), told)


class Kinds(unittest.TestCase):
    TEXT = ASK + ("entry function main ( x : 2 ) : 2 { if x == 2#2 { call x = ask ( x ) ; if x == 2#2 { raise ouch ; } } "
                  "while x == 3#2 { let x = x ; } return x ; }")

    def setUp(self):
        self.program = program_of(self.TEXT)

    def test_ways(self):
        told = {("ask", 0, 1): ("met", ((2,), (0,))), ("ask", 0, 0): ("shut",),
                ("main", 0, 1): ("met", ((2,), (0,))), ("main", 0, 0): ("met", ((0,), ())),
                ("main", 1, 1): ("shut",), ("main", 1, 0): ("met", ((2,), (0,))),
                ("main", 2, 1): ("met", ((2,), (3,))), ("main", 2, 0): ("met", ((0,), ()))}
        suite = suite_of(self.program, "main", "ways")
        self.assertEqual(suite, tuple((("way", *way), told[way]) for way in told))
        self.assertEqual(tests_of(self.program, "main", "ways"), (((0,), ()), ((2,), (3,))))

    def test_pairs(self):
        suite = dict(suite_of(self.program, "main", "pairs"))
        self.assertEqual(suite["pair", ("main", 0, 1), ("ask", 0, 1)], ("met", ((2,), (0,))))
        self.assertEqual(suite["pair", ("main", 0, 0), ("main", 2, 1)], ("met", ((3,), ())))
        self.assertEqual(suite["pair", ("main", 0, 1), ("main", 2, 0)], ("shut",))
        self.assertEqual(tests_of(self.program, "main", "pairs"),
                         (((0,), ()), ((2,), (0,)), ((2,), (3,)), ((3,), ())))

    def test_ends(self):
        self.assertEqual(suite_of(self.program, "main", "ends"), (
            (("end", "returns"), ("met", ((0,), ()))), (("end", "endless"), ("met", ((2,), (3,)))),
            (("end", "raises", "duty"), ("shut",)), (("end", "raises", "ouch"), ("shut",)),
        ))

    def test_mutants(self):
        program = program_of("entry function main ( x : 2 ) : 2 { if x < 2#2 { let x = x + 1#2 ; } return x ; }")
        # Negated, <=, the word 3, left out, -, the word 2.
        told = [(0,), (2,), (2,), (0,), (0,), (0,)]
        self.assertEqual(suite_of(program, "main", "mutants"),
                         tuple((("mutant", "main", at), ("met", (args, ()))) for at, args in enumerate(told)))
        self.assertEqual(tests_of(program, "main", "mutants"), (((0,), ()), ((2,), ())))

    def test_mutants_that_are_cut_or_alike(self):
        program = program_of("entry function main ( x : 2 ) : 1 { while x != 0#2 { let x = x - 1#2 ; } return 1#1 ; }")
        suite = dict(suite_of(program, "main", "mutants", (3, 4, 4, 8)))
        # The word 1, +, the word 2, the word 0.
        self.assertEqual(suite["mutant", "main", 2], ("open", "steps", ((0,), ())))
        self.assertEqual(suite["mutant", "main", 4], ("open", "steps", ((1,), ())))
        self.assertEqual(suite["mutant", "main", 5], ("met", ((1,), ())))
        self.assertEqual(suite["mutant", "main", 6], ("met", ((0,), ())))
        suite = dict(suite_of(program, "main", "mutants"))
        self.assertEqual(suite["mutant", "main", 4], ("shut",))

    def test_mutants_of_what_is_not_met(self):
        text = ("function off ( x : 2 ) : 2 { return x + 1#2 ; } entry function main ( x : 2 ) : 2 "
                "{ if x != x { call x = off ( x ) ; } return x ; }")
        suite = dict(suite_of(program_of(text), "main", "mutants"))
        self.assertEqual(suite["mutant", "off", 0], ("shut",))
        loop = text.replace("return x ; } ", "while x == x { let x = x + 1#2 ; } return x ; } ", 1)
        self.assertEqual(dict(suite_of(program_of(loop), "main", "mutants"))["mutant", "off", 0], ("shut",))
        cut = text.replace("{ if x", "{ if x == 2#2 { call main ( x ) ; } if x")
        suite = dict(suite_of(program_of(cut), "main", "mutants"))
        self.assertEqual(suite["mutant", "off", 0], ("open", "depth", ((2,), ())))

    def test_the_least_cut_input_and_its_bound(self):
        program = program_of("entry function main ( x : 2 ) : 1 { if x == 2#2 { call main ( x ) ; } "
                             "while 1#2 <= x { let x = x + x ; call help ( ) ; } raise ouch ; } function help ( ) : 1 { }")
        way = ("way", "main", 1, 1)
        suite = dict(suite_of(program, "main", "ends", (24, 2, 4, 8)))
        self.assertEqual(suite["end", "returns"], ("open", "depth", ((2,), ())))
        suite = dict(suite_of(program, "main", "ends", (4, 1, 4, 8)))
        self.assertEqual(suite["end", "returns"], ("open", "depth", ((1,), ())))
        suite = dict(suite_of(program, "main", "ways", (2, 2, 4, 8)))
        self.assertEqual(suite[way], ("met", ((1,), ())))
        self.assertEqual(suite["way", "main", 0, 1], ("met", ((2,), ())))
        suite = dict(suite_of(program, "main", "ends", (2, 2, 4, 8)))
        self.assertEqual(suite["end", "endless"], ("open", "steps", ((1,), ())))
        self.assertEqual(suite["end", "raises", "ouch"], ("met", ((0,), ())))

    def test_default_bounds(self):
        program = program_of("entry function main ( x : 8 ) : 1 { while x != 0#8 { let x = x - 1#8 ; } raise ouch ; }")
        for kind in KINDS:
            self.assertEqual(suite_of(program, "main", kind), suite_of(program, "main", kind, BOUNDS))
            self.assertNotEqual(suite_of(program, "main", kind), suite_of(program, "main", kind, (24, 4, 4, 12))[1:])
        self.assertEqual(suite_of(program, "main", "ends")[0][1], ("open", "steps", ((24,), ())))
        self.assertEqual(tests_of(program, "main", "ways"), (((1,), ()),))

    def test_many_bits(self):
        program = program_of("external e ( ) : 3 needs 1#1 gives result != 1#3 ; entry function main ( x : 6 ) : 6 { "
                             "var y : 3 ; var z : 3 ; call y = e ( ) ; call z = e ( ) ; if x == 63#6 { if y == 7#3 "
                             "{ if z == 6#3 { return 1#6 ; } if z == 1#3 { return 2#6 ; } } } raise ouch ; }")
        bounds = (24, 4, 4, 12)
        suite = dict(suite_of(program, "main", "ways", bounds))
        self.assertEqual([suite["way", "main", at, 1] for at in range(4)],
                         [("met", ((63,), (0, 0))), ("met", ((63,), (7, 0))), ("met", ((63,), (7, 6))), ("shut",)])
        suite = dict(suite_of(program, "main", "mutants", bounds))
        # Of z == 6 the word 7, and the words that are returned.
        self.assertEqual([suite["mutant", "main", at] for at in (10, 11, 14, 15)],
                         [("met", ((63,), (7, 6))), ("met", ((63,), (7, 6))), ("met", ((63,), (7, 2))), ("shut",)])
        self.assertEqual(tests_of(program, "main", "ends", bounds), (((0,), (0, 0)), ((63,), (7, 6))))

    def test_no_goals(self):
        program = program_of("entry function main ( ) : 1 { }")
        for kind in ("ways", "pairs", "mutants"):
            self.assertEqual(suite_of(program, "main", kind), ())
            self.assertEqual(tests_of(program, "main", kind), ())
        self.assertEqual(met_by(program, "main", "ways", (((), ()),)), ())

    def test_units(self):
        program = program_of("record box { } function f ( x : 1 ) : 1 { var b : box ; assert x ; make b = box ; }")
        self.assertEqual(suite_of(program, "f", "ways"),
                         ((("way", "f", 0, 1), ("met", ((1,), ()))), (("way", "f", 0, 0), ("met", ((0,), ())))))


class TestsOf(unittest.TestCase):
    def test_the_fewest_and_the_least(self):
        # 3 goes two of the ways at once, so do 5 and 7.
        text = ("entry function main ( x : 3 ) : 1 { if ( x & 1#3 ) != 0#3 { } if ( x & 2#3 ) != 0#3 { } "
                "if ( x & 4#3 ) != 0#3 { } }")
        self.assertEqual(tests_of(program_of(text), "main", "ways"), (((0,), ()), ((7,), ())))
        text = text.replace("{ if", "{ if x == 7#3 { raise ouch ; } if", 1)
        self.assertEqual(tests_of(program_of(text), "main", "ways"), (((1,), ()), ((6,), ()), ((7,), ())))

    def test_classes_of_ways(self):
        self.assertEqual(len(tests_of(program_of(ifs(15)), "main", "ways")), 15)
        self.assertEqual(error_of(tests_of, program_of(ifs(16)), "main", "ways"), ("TooMany", "classes"))
        # No other word is left: the set of ways 0 alone is not met.
        self.assertEqual(len(tests_of(program_of(ifs(16, width=4)), "main", "ways")), 16)

    def test_the_empty_set_is_a_class(self):
        looks = " ".join(f"if ( x & {bit}#8 ) != 0#8 {{ }}" for bit in (1, 2, 4, 8))
        text = "entry function main ( x : 8 ) : 1 { let x = x & 15#8 ; if 16#8 <= x { return 0#1 ; } " + looks + " }"
        self.assertEqual(len(tests_of(program_of(text), "main", "pairs")), 4)
        # Now a run that goes one way only meets no pair.
        program = program_of(text.replace("let x = x & 15#8 ; ", ""))
        self.assertEqual(error_of(tests_of, program, "main", "pairs"), ("TooMany", "classes"))

    def test_classes_of_mutants(self):
        found = tests_of(program_of(ifs(16, "let y = 1#1 ;")), "main", "mutants")
        self.assertEqual(found, tuple(((at,), ()) for at in range(16)))
        program = program_of(ifs(17, "let y = 1#1 ;"))
        self.assertEqual(error_of(tests_of, program, "main", "mutants"), ("TooMany", "classes"))
        self.assertEqual(len(suite_of(program, "main", "mutants")), 17 * 5)

    def test_cut_runs(self):
        # Tests can be cut, too, where they meet something.
        program = program_of("entry function main ( x : 8 ) : 1 { if x == 9#8 { call help ( x ) ; } } "
                             "function help ( x : 8 ) : 1 { raise ouch ; }")
        self.assertEqual(tests_of(program, "main", "ways", (24, 1, 4, 8)), (((0,), ()), ((9,), ())))
        self.assertEqual(tests_of(program, "main", "ends", (24, 1, 4, 8)), (((0,), ()),))
        self.assertEqual(tests_of(program, "main", "ends", (24, 2, 4, 8)), (((0,), ()), ((9,), ())))
        deep = program_of("entry function main ( x : 8 ) : 1 { call main ( x ) ; }")
        self.assertEqual(tests_of(deep, "main", "ends"), ())


class Errors(unittest.TestCase):
    def both(self, program, kind, *bounds):
        return (error_of(suite_of, program, "main", kind, *bounds), error_of(tests_of, program, "main", kind, *bounds))

    def leaves(self, many, looks=0):
        """A program with as many leaves and so many looks besides."""
        last = many - 2
        return program_of(f"entry function main ( x : 8 ) : 8 {{ var m : 8 ; var s : 8 ; let m = 128#8 ; "
                          f"if {last}#8 < x {{ let x = {last}#8 ; }} while m != 0#8 "
                          "{ if s + m <= x { let s = s + m ; } let m = m >> 1#1 ; } " + "if 1#1 { } " * looks
                          + "return s ; }")

    def test_too_many_leaves(self):
        bounds = (32, 4, 4, 8)
        for kind in KINDS[:3]:
            self.assertEqual(self.both(self.leaves(201), kind, bounds), (("TooMany", "leaves"),) * 2)
            self.assertIsNone(error_of(suite_of, self.leaves(200), "main", kind, bounds))
        self.assertIsNone(error_of(suite_of, self.leaves(201), "main", "mutants", bounds))

    def test_too_many_goals(self):
        for kind, program in (("pairs", program_of("entry function main ( x : 1 ) : 1 { " + "if x { } " * 11 + "}")),
                              ("mutants", self.chain())):
            self.assertEqual(self.both(program, kind), (("TooMany", "goals"),) * 2)
            self.assertEqual(self.both(program, kind, (24, 4, 4, 0)), (("TooWide", "main"),) * 2)
        program = program_of("entry function main ( x : 1 ) : 1 { " + "if x { } " * 10 + "}")
        self.assertEqual(len(suite_of(program, "main", "pairs")), 400)

    def chain(self):
        body = "let x = x ; " * 39
        parts = [f"function f{at} ( x : 1 ) : 1 {{ {body} call f{at + 1} ( x ) ; }} " for at in range(10)]
        return program_of("".join(parts) + "function f10 ( x : 1 ) : 1 { return x ; } "
                          "entry function main ( x : 1 ) : 1 { call f0 ( x ) ; }")

    def test_the_order(self):
        program = self.leaves(201, 9)
        self.assertEqual(error_of(goals_of, program, "main", "pairs"), ("TooMany", "goals"))
        self.assertEqual(self.both(program, "pairs", (32, 4, 4, 8)), (("TooMany", "leaves"),) * 2)
        self.assertEqual(self.both(program, "pairs", (32, 4, 4, 7)), (("TooWide", "main"),) * 2)
        self.assertEqual(self.both(program, "pairs", (33, 4, 4, 7)), (("BadBounds",),) * 2)
        self.assertEqual(self.both(self.leaves(200, 9), "pairs", (32, 4, 4, 8)), (("TooMany", "goals"),) * 2)


class MetBy(unittest.TestCase):
    PROGRAM = program_of(ASK + "entry function main ( x : 2 ) : 2 { if x != 0#2 { call x = ask ( x ) ; } return x ; }")

    def error(self, *inputs, kind="ways", bounds=BOUNDS):
        return error_of(met_by, self.PROGRAM, "main", kind, inputs, bounds)

    def test_inputs_that_do_not_fit(self):
        good = ((1,), (2,))
        self.assertIsNone(self.error(good, ((0,), ())))
        for args in ((), (4,), (1, 1), (-1,)):
            self.assertEqual(self.error(good, (args, (7,))), ("BadInput", "args"))
        for tried in (((1,), (1,)), ((1,), ()), ((0,), (0,)), ((1,), (2, 0)), ((1,), (4,)), ((1,), (-1,))):
            self.assertEqual(self.error(good, tried, ((9,), ())), ("BadInput", "answers"), tried)
        self.assertEqual(self.error(((9,), ()), ((1,), ())), ("BadInput", "args"))

    def test_the_order_of_errors(self):
        bad = ((9,), ())
        self.assertEqual(self.error(bad, bounds=(24, 4, 4, 1)), ("TooWide", "main"))
        self.assertEqual(self.error(bounds=(24, 4, 4, 1)), ("TooWide", "main"))
        self.assertEqual(self.error(bad, bounds=(24, 4, 4, -1)), ("BadBounds",))
        program = program_of("entry function main ( x : 1 ) : 1 { " + "if x { } " * 11 + "}")
        self.assertEqual(error_of(met_by, program, "main", "pairs", (((2,), ()),)), ("BadInput", "args"))
        self.assertEqual(error_of(met_by, program, "main", "pairs", (((1,), ()),)), ("TooMany", "goals"))
        self.assertEqual(error_of(met_by, program, "main", "pairs", ()), ("TooMany", "goals"))

    def test_none(self):
        for kind in KINDS[:3]:
            self.assertEqual(met_by(self.PROGRAM, "main", kind, ()), ())

    def test_in_the_order_of_the_goals(self):
        both = (((3,), (1,)), ((0,), ()))
        told = (("way", "ask", 0, 1), ("way", "main", 0, 1), ("way", "main", 0, 0))
        self.assertEqual(met_by(self.PROGRAM, "main", "ways", both), told)
        self.assertEqual(met_by(self.PROGRAM, "main", "ways", both[::-1]), told)
        self.assertEqual(met_by(self.PROGRAM, "main", "ends", both), (("end", "returns"),))
        # A cut run is full.
        self.assertEqual(met_by(self.PROGRAM, "main", "ways", (((3,), ()),), (24, 4, 4, 3)), told[:2])


if __name__ == "__main__":
    unittest.main()
