"""The prints of entries."""

import unittest

from drawing import drawn_units
from helping import error_of, program_of
from metorshut.bounds import BOUNDS
from metorshut.goals import KINDS
from metorshut.prints import print_of
from metorshut.programs import declared
from metorshut.writing import text_of
from plainsuites import PlainSuites

ASK = "external ask ( a : 2 ) : 2 needs a != 0#2 gives result != a ; "
TWO = "record box { v : 2 ; } record kind { b : box ; } "


class Drawn(unittest.TestCase):
    def test_against_runs_of_all_full_inputs(self):
        several = 0
        for seed, program, unit, bounds in drawn_units(0, 200, (4, 6)):
            told = PlainSuites(program, unit, bounds).printed("ways")
            for kind in KINDS[:3]:
                self.assertEqual(print_of(program, unit, kind, bounds), told, (seed, unit))
            several += 1 < len(told) < len(program)
        self.assertGreater(several, 40)

    def test_mutants_against_all_walks(self):
        more = 0
        for seed, program, unit, bounds in drawn_units(0, 80, (3, 4)):
            plain = PlainSuites(program, unit, bounds)
            told = plain.printed("mutants")
            self.assertEqual(print_of(program, unit, "mutants", bounds), told, (seed, unit))
            more += told != plain.printed("ways")
        self.assertGreater(more, 15)


class Prints(unittest.TestCase):
    def names(self, text, kind="ways", bounds=BOUNDS, unit="main"):
        program = program_of(text)
        found = print_of(program, unit, kind, bounds)
        self.assertEqual(found, tuple((name, text_of(declared(program, name))) for name, _ in found))
        self.assertEqual([name for name, _ in found], sorted(name for name, _ in found))
        return [name for name, _ in found]

    def main(self, body, more=""):
        return more + f"entry function main ( x : 2 ) : 2 {{ {body} }}"

    def test_names_that_only_some_inputs_meet(self):
        helps = "function a ( ) : 1 { } function b ( ) : 1 { } function c ( ) : 1 { call a ( ) ; } "
        body = "if x == 3#2 { call b ( ) ; } if x < x { call c ( ) ; }"
        for kind in KINDS[:3]:
            self.assertEqual(self.names(self.main(body, helps), kind), ["b", "main"])

    def test_records_that_are_only_kinds(self):
        body = "var b : box ; var k : kind ; if b == null { make b = box ; } return b . v ;"
        self.assertEqual(self.names(self.main(body, TWO)), ["box", "main"])
        self.assertEqual(self.names(self.main(body.replace("== null", "!= null"), TWO)), ["main"])

    def test_where_a_run_is_cut(self):
        body = "call help ( ) ; if x == 1#2 { call main ( x ) ; }"
        text = self.main(body, "function help ( ) : 1 { call late ( ) ; } function late ( ) : 1 { }")
        self.assertEqual(self.names(text, bounds=(24, 1, 4, 8)), ["help", "main"])
        self.assertEqual(self.names(text, bounds=(24, 2, 4, 8)), ["help", "late", "main"])
        self.assertEqual(self.names(text, bounds=(24, 3, 4, 8)), ["help", "late", "main"])
        self.assertEqual(self.names(text, bounds=(1, 3, 4, 8)), ["help", "late", "main"])
        made = self.main("var b : box ; if x == x { make b = box ; }", TWO)
        self.assertEqual(self.names(made, bounds=(24, 4, 0, 8)), ["box", "main"])
        self.assertEqual(self.names(made, bounds=(1, 4, 4, 8)), ["box", "main"])
        asked = self.main("if x != 0#2 { call x = ask ( x ) ; }", ASK)
        self.assertEqual(self.names(asked, bounds=(24, 4, 4, 2)), ["ask", "main"])
        self.assertEqual(self.names(asked, bounds=(1, 4, 4, 8)), ["ask", "main"])

    def test_where_the_needs_do_not_hold(self):
        self.assertEqual(self.names(self.main("call x = ask ( 0#2 ) ; call help ( ) ;", ASK + "function help ( ) : 1 { }")),
                         ["ask", "main"])

    def test_where_a_look_of_an_arg_raises(self):
        text = self.main("call help ( div ( x , 0#2 ) ) ;", "function help ( y : 2 ) : 1 { }")
        self.assertEqual(self.names(text), ["main"])

    def test_mutants(self):
        helps = "function off ( ) : 1 { call last ( ) ; } function last ( ) : 1 { } "
        text = self.main("if x != x { call off ( ) ; } return x ;", helps)
        self.assertEqual(self.names(text), ["main"])
        # The negated look, and the changed one, lead there.
        self.assertEqual(self.names(text, "mutants"), ["last", "main", "off"])
        self.assertEqual(self.names(text, "mutants", (24, 2, 4, 8)), ["last", "main", "off"])
        self.assertEqual(self.names(text, "mutants", (24, 1, 4, 8)), ["main", "off"])
        # Two changes would be needed here.
        text = self.main("if x != x { if x != x { call off ( ) ; } } return x ;", helps)
        self.assertEqual(self.names(text, "mutants"), ["main"])

    def test_mutants_as_far_as_the_walks_go(self):
        helps = ASK + "function off ( ) : 1 { } "
        # Without the first ask the walk is parted ahead of the second one.
        text = self.main("var y : 2 ; call x = ask ( 1#2 ) ; call y = ask ( 2#2 ) ; if y == 2#2 { call off ( ) ; }", helps)
        self.assertEqual(self.names(text), ["ask", "main"])
        self.assertEqual(self.names(text, "mutants"), ["ask", "main", "off"])
        text = self.main("var y : 2 ; if 0#1 { call y = ask ( 1#2 ) ; call off ( ) ; } return x ;", helps)
        # The mutant waits for an answer, which the program never asks for.
        self.assertEqual(self.names(text, "mutants"), ["ask", "main"])
        # The first run is cut, the run of the mutant goes on to its end.
        text = self.main("if x == x { call main ( x ) ; } call off ( ) ; return x ;", helps)
        self.assertEqual(self.names(text, "mutants"), ["main", "off"])

    def test_mutants_behind_the_least_parted_input(self):
        # With the word 2 in the first statement, 0 parts the programs, and 3 leads to off.
        helps = "function off ( ) : 1 { } "
        text = self.main("var y : 2 ; let y = 1#2 ; if x != 3#2 { return y ; } "
                         "if y == 2#2 { if y == 2#2 { call off ( ) ; } } return 0#2 ;", helps)
        self.assertEqual(self.names(text), ["main"])
        self.assertEqual(self.names(text, "mutants"), ["main", "off"])

    def test_mutants_with_answers_of_the_walk(self):
        helps = ASK + "function off ( ) : 1 { } "
        text = self.main("call x = ask ( 1#2 ) ; if x == 1#2 { call off ( ) ; } if x == 3#2 { return 1#2 ; } return x ;",
                         helps)
        self.assertEqual(self.names(text), ["ask", "main"])
        self.assertEqual(self.names(text, "mutants"), ["ask", "main", "off"])

    def test_more_leaves_than_a_book_has(self):
        text = ("entry function main ( x : 8 ) : 8 { var m : 8 ; var s : 8 ; let m = 128#8 ; while m != 0#8 "
                "{ if s + m <= x { let s = s + m ; } let m = m >> 1#1 ; } if s == 77#8 { call help ( ) ; } return s ; } "
                "function help ( ) : 1 { }")
        for kind in KINDS[:3]:
            self.assertEqual(self.names(text, kind, (32, 4, 4, 8)), ["help", "main"])

    def test_units(self):
        text = self.main("call help ( ) ;", "function help ( ) : 1 { }")
        self.assertEqual(self.names(text, unit="help"), ["help"])

    def test_default_bounds(self):
        program = program_of(self.main("call main ( x ) ;"))
        for kind in KINDS:
            self.assertEqual(print_of(program, "main", kind), print_of(program, "main", kind, BOUNDS))

    def test_errors(self):
        program = program_of(self.main("return x ;"))
        for kind in KINDS:
            self.assertEqual(error_of(print_of, program, "main", kind, (24, 4, 4, 1)), ("TooWide", "main"))
            self.assertEqual(error_of(print_of, program, "main", kind, (24, 9, 4, 1)), ("BadBounds",))
            self.assertIsNone(error_of(print_of, program, "main", kind, (24, 4, 4, 2)))
        body = "let x = x ; " * 40
        many = "".join(f"function f{at} ( x : 1 ) : 1 {{ {body} }} " for at in range(11))
        calls = "".join(f"call f{at} ( 1#1 ) ; " for at in range(11))
        # No number of goals is too large here.
        self.assertEqual(len(self.names(self.main(calls, many), "mutants")), 12)


if __name__ == "__main__":
    unittest.main()
