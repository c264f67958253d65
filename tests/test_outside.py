"""Functions made externals."""

import unittest

from changing import with_one
from drawing import drawn_units
from helping import error_of, program_of, word
from metorshut.bounds import BOUNDS
from metorshut.check import check
from metorshut.closures import closure_of, is_open, is_pure
from metorshut.errors import LimitError
from metorshut.inputs import inputs_of
from metorshut.outside import made_external
from metorshut.programs import declared, entries_of
from metorshut.promises import promises_of
from metorshut.reading import read_program
from metorshut.runs import Machine
from metorshut.suites import suite_of
from metorshut.writing import write_program
from plainrun import PlainRun, plain_report

ASK = "external ask ( a : 2 ) : 2 needs 1#1 gives 1#1 ; "


class Noting(list):
    """The answers of a run, which are noted outside of the calls of one function."""

    def __init__(self, run):
        super().__init__()
        self.run = run

    def append(self, one):
        super().append(one)
        name, words, answer = one
        if not self.run.inside:
            self.run.shown_asked.append((name, words))
            self.run.given_back.append(answer)


class Watched(PlainRun):
    """A run that notes what it does outside of the calls of one function, and what these calls return."""

    def __init__(self, *rest, hidden):
        super().__init__(*rest)
        self.hidden = hidden
        self.inside = 0
        self.shown_ways, self.shown_asked, self.given_back = [], [], []
        self.given = Noting(self)

    def call(self, name, args):
        if name != self.hidden:
            return super().call(name, args)
        self.inside += 1
        try:
            found = super().call(name, args)
        finally:
            self.inside -= 1
        if not self.inside:
            self.given_back.append(found)
        return found

    def look(self, place, holds):
        found = super().look(place, holds)
        if not self.inside:
            self.shown_ways.append((*place, 1 if holds else 0))
        return found


class Drawn(unittest.TestCase):
    def drawn(self, first, last):
        """Yields (program, name, other, bounds) for functions that can be made externals; most of them are so made."""
        for seed, program, unit, bounds in drawn_units(first, last, (6, 7)):
            function = declared(program, unit)
            caught = tuple((name, ()) for name in ("index", "nothing", "zero", "claim", "duty", "ouch"))
            program = with_one(program, (*function[:6], (("try", function[6], caught),)))
            try:
                other = made_external(program, unit, bounds)
            except (LimitError, ValueError):
                continue
            yield program, unit, other, bounds

    def test_what_is_made(self):
        many = steady = 0
        for program, name, other, bounds in self.drawn(0, 500):
            check(other)
            function, external = declared(program, name), declared(other, name)
            self.assertEqual([one for one in other if one is not external], [one for one in program if one != function])
            self.assertEqual([one[1] for one in other], [one[1] for one in program])
            facts, _ = promises_of(program, name, bounds)
            gives = facts[0]
            for fact in facts[1:]:
                gives = ("&", gives, fact)
            pure = 1 if is_pure(program, name) else 0
            self.assertEqual(external, ("external", name, *function[2:4], pure, word(1, 1), gives))
            self.assertEqual(read_program(write_program(other)), other)
            many += 1
            steady += pure
        self.assertTrue(15 < steady < many - 5, (steady, many))

    def test_each_run_of_an_entry_has_one_of_the_new_program(self):
        used = 0
        for program, name, other, bounds in self.drawn(0, 500):
            for entry in entries_of(program):
                if name in closure_of(program, entry) and sum(kind for _, kind in declared(program, entry)[2]) <= 6:
                    for tried in inputs_of(program, entry, bounds):
                        used += self.has_mate(program, name, other, entry, tried, bounds)
        self.assertGreater(used, 200)

    def has_mate(self, program, name, other, entry, tried, bounds):
        """Check one input; whether a call was given back, and neither run is cut."""
        args, answers = tried
        elder = Watched(program, entry, answers, bounds, hidden=name)
        _, ways, _, outcome, _ = elder.whole(args)
        run = Machine(other).start(entry, args, bounds)
        run.go()
        for given in elder.given_back:
            if run.outcome[0] == "cut":
                return False
            run.answer(given)
            run.go()
        while outcome == ("endless",) and run.outcome[0] == "asks":
            # What has no end without an ask goes on asking until it is cut.
            self.assertEqual(run.outcome[1], name)
            run.answer(plain_report(program, name, run.outcome[2], (), (32, 8, 8, 12))[3][1])
            run.go()
        _, newer_ways, asked, newer_outcome, _ = run.report
        if "cut" in (outcome[0], newer_outcome[0]):
            return False
        self.assertEqual(newer_outcome, outcome)
        self.assertEqual([way for way in newer_ways if way[0] != name], elder.shown_ways)
        self.assertEqual([ask for ask in asked if ask[0] != name], elder.shown_asked)
        return len(ways) > len(elder.shown_ways) or len(asked) > len(elder.shown_asked)

    def test_ways_that_are_shut(self):
        shut = 0
        for program, name, other, bounds in self.drawn(0, 500):
            for entry in entries_of(program):
                if name not in closure_of(program, entry) or sum(k for _, k in declared(program, entry)[2]) > 6:
                    continue
                met = {goal for goal, answer in suite_of(program, entry, "ways", bounds) if answer[0] == "met"}
                for goal, answer in suite_of(other, entry, "ways", bounds):
                    if answer == ("shut",) and goal[1] not in closure_of(program, name):
                        self.assertNotIn(goal, met)
                        shut += 1
        self.assertGreater(shut, 10)


class Outside(unittest.TestCase):
    def test_a_plain_one(self):
        program = program_of("function low ( x : 2 ) : 2 { if 1#2 < x { return 1#2 ; } return x ; } "
                             "entry function main ( x : 2 ) : 2 { call x = low ( x ) ; if x == 3#2 { raise ouch ; } }")
        text = ("external low ( x : 2 ) : 2 steady needs 1#1 gives ( x & 0#2 ) == 0#2 & 0#2 <= x & x <= 3#2 & "
                "( result & 2#2 ) == 0#2 & 0#2 <= result & result <= 1#2 & result <= x ; "
                "entry function main ( x : 2 ) : 2 { call x = low ( x ) ; if x == 3#2 { raise ouch ; } }")
        self.assertEqual(made_external(program, "low"), read_program(text))
        suite = dict(suite_of(made_external(program, "low"), "main", "ways"))
        self.assertEqual(suite["way", "main", 0, 1], ("shut",))

    def test_steady_and_not(self):
        asking = ASK + "function f ( x : 2 ) : 2 { call x = ask ( x ) ; return x ; }"
        making = "record box { } function f ( x : 2 ) : 2 { var b : box ; make b = box ; return x ; }"
        kinds = "record box { } function f ( x : 2 ) : 2 { var b : box ; return x ; }"
        plain = "function f ( x : 2 ) : 2 { var b : 2 [ 3 ] ; return x ; }"
        for text, steady in ((asking, 0), (making, 0), (kinds, 0), (plain, 1)):
            self.assertEqual(declared(made_external(program_of(text), "f"), "f")[4], steady)

    def test_no_parameters(self):
        program = program_of("function f ( ) : 3 { return 5#3 ; } entry function main ( ) : 3 { var x : 3 ; call x = f ( ) ; "
                             "return x ; }")
        other = made_external(program, "f")
        self.assertEqual([args for args in inputs_of(other, "main")], [((), (5,))])

    def test_recursion(self):
        program = program_of("function f ( x : 2 ) : 2 { if x == 0#2 { return 0#2 ; } call x = f ( x - 1#2 ) ; return x ; }")
        self.assertEqual(declared(made_external(program, "f"), "f")[0], "external")
        self.assertEqual(error_of(made_external, program, "f", (24, 3, 4, 8)), ("CutShort", "depth"))

    def error(self, text, bounds=BOUNDS, name="f"):
        return error_of(made_external, program_of(text), name, bounds)

    def test_not_fit(self):
        for head in ("entry function f ( x : 2 ) : 2", "function f ( x : box ) : 2", "function f ( x : 2 ) : box",
                     "function f ( x : 2 ) : 4", "function f ( x : 2 , y : 2 , z : 2 , w : 2 ) : 2",
                     "function f ( x : 4 , y : 3 ) : 2", "function f ( x : 7 ) : 1", "function f ( x : 8 , y : 8 ) : 1",
                     "function f ( result : 2 ) : 2", "function f ( x : 1 , result : 1 ) : 2"):
            for body in ("", "raise ouch ;", "while 1#1 { if 1#1 { } }"):
                for bounds in (BOUNDS, (24, 4, 4, 0)):
                    self.assertEqual(self.error("record box { } " + head + " { " + body + " }", bounds), ("NotFit", "f"))
        for head in ("function f ( x : 6 ) : 3", "function f ( x : 2 , y : 2 , z : 2 ) : 1", "function f ( ) : 1"):
            self.assertIsNone(self.error(head + " { }"))

    def test_not_total(self):
        for body, words in (("if x == 2#2 { raise ouch ; }", (2,)), ("while 3#2 <= x { }", (3,)),
                            ("raise a ;", (0,)), ("call x = ask ( x ) ; assert x != 1#2 ;", (0,)),
                            ("if x != 0#2 { call x = ask ( x ) ; assert x != 1#2 ; }", (1,))):
            self.assertEqual(self.error(ASK + "function f ( x : 2 ) : 2 { " + body + " }"), ("NotTotal", "f", words))

    def test_cut_runs(self):
        text = "function f ( x : 2 ) : 2 { if x == 0#2 { raise ouch ; } if x == 3#2 { call f ( x ) ; } return x ; }"
        # Ahead of what does not return.
        self.assertEqual(self.error(text), ("CutShort", "depth"))
        self.assertEqual(self.error(text, (1, 4, 4, 8)), ("CutShort", "steps"))
        self.assertEqual(self.error(text.replace("3#2 {", "3#2 { raise late ;"), (24, 4, 4, 8)), ("NotTotal", "f", (0,)))

    def test_the_order_of_errors(self):
        text = "function f ( x : 2 ) : 2 { call f ( x ) ; }"
        self.assertEqual(self.error(text, (24, 4, 4, 1)), ("TooWide", "f"))
        self.assertEqual(self.error(text, (24, 9, 4, 1)), ("BadBounds",))
        self.assertEqual(self.error("entry " + text, (24, 9, 4, 1)), ("BadBounds",))
        self.assertEqual(self.error("entry " + text, (24, 4, 4, 1)), ("NotFit", "f"))

    def test_nothing_else_is_changed(self):
        program = program_of("function f ( x : 1 ) : 1 { } " + ASK + "function g ( ) : 1 { call f ( 1#1 ) ; }")
        other = made_external(program, "f")
        self.assertEqual(other[1:], program[1:])
        self.assertEqual(program[0][0], "function")
        self.assertTrue(is_open(program, "f"))
        self.assertEqual(plain_report(other, "g", (), (0,), BOUNDS)[3], ("returns", 0))


if __name__ == "__main__":
    unittest.main()
