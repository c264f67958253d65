"""What units need of their arguments, and what they promise."""

import unittest
from itertools import product

from drawing import drawn_units
from helping import error_of, name, program_of, word
from metorshut.bounds import BOUNDS
from metorshut.facts import facts_of
from metorshut.inputs import inputs_of
from metorshut.programs import declared
from metorshut.promises import needs_of, promises_of
from plainrun import plain_holds, plain_report, power
from plainwalk import args_of

ASK = "external ask ( a : 2 ) : 2 needs a != 0#2 gives result != a ; "
X, Y, RESULT = name("x"), name("y"), name("result")


def plain_needs(program, unit, bounds):
    """The needs and promises, or the error, by a run for each full input."""
    names = declared(program, unit)[2]
    reports = {tried: plain_report(program, unit, *tried, bounds) for tried in inputs_of(program, unit, bounds)}
    for tried in sorted(reports):
        if reports[tried][3][0] == "cut":
            return ("CutShort", reports[tried][3][1])
    failing = {args for (args, _), report in reports.items() if report[3][0] != "returns"}
    rows = [args for args in args_of(program, unit) if args not in failing]
    needs = told(names, rows, sorted(failing), (0,) * len(names))
    names = (*names, ("result", declared(program, unit)[3]))
    rows = {(*args, report[3][1]) for (args, _), report in reports.items() if report[3][0] == "returns"}
    others = (row for row in product(*[range(power(width)) for _, width in names]) if row not in rows)
    return needs, told(names, sorted(rows), others, (0,) * len(names))


def told(names, rows, others, least):
    if not rows:
        return None, least
    facts = facts_of(names, rows)
    for row in others:
        if all(plain_holds(names, row, fact) for fact in facts):
            return facts, row
    return facts, None


class Drawn(unittest.TestCase):
    def test_against_runs_of_all_full_inputs(self):
        seen = set()
        for seed, program, unit, bounds in drawn_units(0, 300, (4, 6)):
            if sum(kind for _, kind in declared(program, unit)[2]) + declared(program, unit)[3] > 9:
                continue
            plain = plain_needs(program, unit, bounds)
            if plain[0] == "CutShort":
                self.assertEqual(error_of(needs_of, program, unit, bounds), plain, (seed, unit))
                self.assertEqual(error_of(promises_of, program, unit, bounds), plain)
                seen.add(plain)
            else:
                found = needs_of(program, unit, bounds), promises_of(program, unit, bounds)
                self.assertEqual(found, plain, (seed, unit))
                seen.update((at, facts is None, against is None) for at, (facts, against) in enumerate(found))
        self.assertLessEqual({("CutShort", bound) for bound in ("steps", "depth", "objects", "bits")}, seen)
        self.assertLessEqual({(0, False, True), (0, False, False), (0, True, False), (1, False, True),
                              (1, False, False), (1, True, False)}, seen)


class Promises(unittest.TestCase):
    def needs(self, text, bounds=BOUNDS, unit="main"):
        return needs_of(program_of(text), unit, bounds)

    def promises(self, text, bounds=BOUNDS, unit="main"):
        return promises_of(program_of(text), unit, bounds)

    def test_rows_against_the_facts(self):
        text = "entry function main ( x : 2 ) : 2 { if x == 1#2 { raise ouch ; } return x ; }"
        # The bits tell nothing, so 1 is not barred.
        self.assertEqual(self.needs(text), ((("==", ("&", X, word(0, 2)), word(0, 2)), ("<=", word(0, 2), X),
                                             ("<=", X, word(3, 2))), (1,)))
        facts, against = self.promises(text)
        self.assertEqual(facts[6:], (("==", X, RESULT), ("<=", X, RESULT), ("<=", RESULT, X)))
        self.assertEqual(against, (1, 1))

    def test_none_against_them(self):
        text = "entry function main ( x : 2 , y : 2 ) : 2 { assert x < y ; return x ; }"
        facts, against = self.needs(text)
        self.assertEqual((facts[6:], against), ((("!=", X, Y), ("<", X, Y), ("<=", X, Y)), None))
        facts, against = self.promises(text)
        self.assertEqual((facts[-3:], against), ((("!=", Y, RESULT), ("<", RESULT, Y), ("<=", RESULT, Y)), None))

    def test_no_row(self):
        text = "entry function main ( x : 2 , y : 1 ) : 2 { raise ouch ; }"
        self.assertEqual(self.needs(text), (None, (0, 0)))
        self.assertEqual(self.promises(text), (None, (0, 0, 0)))
        text = "entry function main ( ) : 2 { while 1#1 { } }"
        self.assertEqual((self.needs(text), self.promises(text)), ((None, ()), (None, (0,))))

    def test_no_parameters(self):
        text = "entry function main ( ) : 2 { return 2#2 ; }"
        self.assertEqual(self.needs(text), ((), None))
        self.assertEqual(self.promises(text), (facts_of((("result", 2),), ((2,),)), None))

    def test_asks(self):
        text = ASK + "entry function main ( x : 2 ) : 2 { var y : 2 ; call y = ask ( x ) ; assert y < 3#2 ; return y ; }"
        # Only for 3 each answer is less than 3.
        self.assertEqual(self.needs(text), (facts_of((("x", 2),), ((3,),)), None))
        rows = [(x, y) for x in (1, 2, 3) for y in (0, 1, 2) if x != y]
        self.assertEqual(self.promises(text), (facts_of((("x", 2), ("result", 2)), rows), None))
        loose = text.replace("gives result != a", "gives 1#1")
        self.assertEqual(self.needs(loose), (None, (0,)))

    def test_least_rows_against(self):
        text = "entry function main ( x : 3 ) : 3 { if x < 2#3 { return x ; } if x == 6#3 { return 6#3 ; } return 3#3 ; }"
        facts, against = self.promises(text)
        self.assertEqual(facts[6:], ())
        self.assertEqual(against, (0, 1))
        text = "entry function main ( x : 8 ) : 8 { return x * x ; }"
        facts, against = self.promises(text)
        self.assertEqual(against, (0, 1))
        text = "entry function main ( x : 8 ) : 8 { return x ; }"
        self.assertEqual(self.promises(text)[1], None)

    def test_units(self):
        text = "function f ( x : 2 ) : 1 { if x == 0#2 { return 1#1 ; } assert 0#1 ; }"
        self.assertEqual(self.needs(text, unit="f"), (facts_of((("x", 2),), ((0,),)), None))
        self.assertEqual(self.promises(text, unit="f"), (facts_of((("x", 2), ("result", 1)), ((0, 1),)), None))
        # Needs can be asked for where a parameter is called result.
        text = "function f ( result : 2 ) : 1 { assert result == 3#2 ; }"
        self.assertEqual(self.needs(text, unit="f"), (facts_of((("result", 2),), ((3,),)), None))

    def test_cut_runs(self):
        text = ("entry function main ( x : 2 ) : 2 { if x == 2#2 { call main ( x ) ; } "
                "while 3#2 <= x { call help ( ) ; let x = x - 1#2 ; } return x ; } function help ( ) : 1 { }")
        program = program_of(text)
        for bounds, bound in (((24, 4, 4, 8), "depth"), ((3, 4, 4, 8), "steps"), ((3, 1, 4, 8), "depth"),
                              ((1, 4, 4, 8), "steps")):
            for action in (needs_of, promises_of):
                self.assertEqual(error_of(action, program, "main", bounds), ("CutShort", bound), bounds)
        text = ASK + "entry function main ( x : 2 ) : 2 { if x == 3#2 { call x = ask ( x ) ; } return x ; }"
        self.assertEqual(error_of(self.needs, text, (24, 4, 4, 3)), ("CutShort", "bits"))
        self.assertIsNone(error_of(self.promises, text, (24, 4, 4, 4)))

    def test_errors(self):
        program = program_of("entry function main ( x : 2 ) : 2 { call main ( x ) ; }")
        for action in (needs_of, promises_of):
            self.assertEqual(error_of(action, program, "main", (24, 4, 4, 1)), ("TooWide", "main"))
            self.assertEqual(error_of(action, program, "main", (24, 0, 4, 1)), ("BadBounds",))
            self.assertEqual(error_of(action, program, "main"), ("CutShort", "depth"))

    def test_many_rows(self):
        text = ("external e ( ) : 3 needs 1#1 gives 1#1 ; entry function main ( x : 6 ) : 8 { var y : 3 ; var z : 3 ; "
                "call y = e ( ) ; call z = e ( ) ; return wide ( x , 8 ) + wide ( y * z , 8 ) ; }")
        facts, against = self.promises(text, (24, 4, 4, 12))
        self.assertEqual(len(facts), 6)
        self.assertEqual(against, (0, 8))


if __name__ == "__main__":
    unittest.main()
