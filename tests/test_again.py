"""Tests that must be run again, and lots of tests."""

import random
import unittest

from changing import changed
from drawing import drawn_units
from helping import error_of, program_of
from metorshut.again import again, lots_of
from metorshut.bounds import BOUNDS
from metorshut.inputs import inputs_of
from metorshut.programs import declared
from metorshut.suites import tests_of
from metorshut.treeruns import run_tree
from metorshut.writing import text_of

ASK = "external ask ( a : 2 ) : 2 needs a != 0#2 gives result != a ; "
TEXT = ASK + ("function low ( x : 2 ) : 2 { return x ; } function high ( x : 2 ) : 2 { return x ; } "
              "entry function main ( x : 2 ) : 2 { if x < 2#2 { call x = low ( x ) ; } else { call x = high ( x ) ; } "
              "if x == 3#2 { call x = ask ( x ) ; } return x ; }")
INPUTS = tuple(((at,), ()) for at in range(3)) + tuple(((3,), (at,)) for at in range(3))


class Drawn(unittest.TestCase):
    def test_against_the_names_met(self):
        stood = ran = 0
        for seed, program, unit, bounds in drawn_units(0, 150, (4, 5)):
            dice = random.Random(seed)
            other = changed(dice, program, unit)
            inputs = list(inputs_of(program, unit, bounds))
            dice.shuffle(inputs)
            inputs = tuple(inputs[:20] + inputs[:3])
            found = again(program, other, unit, inputs, bounds)
            told = []
            for args, answers in inputs:
                report = run_tree(program, unit, args, answers, bounds)
                ones = [(declared(program, name), declared(other, name)) for name in report[4]]
                if all(two is not None and text_of(one) == text_of(two) for one, two in ones):
                    # What stands has the same report in both programs.
                    self.assertEqual(run_tree(other, unit, args, answers, bounds), report)
                    stood += 1
                else:
                    told.append((args, answers))
            self.assertEqual(found, tuple(told), (seed, unit))
            ran += len(told)
        self.assertGreater(min(stood, ran), 300)


class Again(unittest.TestCase):
    def setUp(self):
        self.program = program_of(TEXT)

    def told(self, text, *inputs):
        self.assertEqual(again(self.program, program_of(text), "main", INPUTS), tuple(inputs))

    def test_plain_ones(self):
        self.told(TEXT)
        self.told(TEXT.replace("low ( x : 2 ) : 2 {", "low ( x : 2 ) : 2 { raise ouch ;"), *INPUTS[:2])
        self.told(TEXT.replace("high ( x : 2 ) : 2 {", "high ( x : 2 ) : 2 { raise ouch ;"), *INPUTS[2:])
        self.told(TEXT.replace("gives result != a", "gives 1#1"), *INPUTS[3:])
        self.told(TEXT.replace("return x ; }", "return x + 0#2 ; }"), *INPUTS)

    def test_moves_and_new_ones(self):
        self.assertEqual(again(self.program, self.program[::-1], "main", INPUTS), ())
        more = (*self.program, *program_of("function late ( ) : 1 { }"))
        self.assertEqual(again(self.program, more, "main", INPUTS), ())

    def test_a_name_that_is_gone(self):
        other = program_of("entry function main ( x : 2 ) : 2 { }")
        self.assertEqual(again(self.program, other, "main", INPUTS), INPUTS)
        # The text of main alone counts where nothing else is met.
        deep = program_of("function f ( ) : 1 { } entry function main ( x : 2 ) : 2 { if x == 1#2 { call f ( ) ; } }")
        flat = program_of("record f { } entry function main ( x : 2 ) : 2 { }")
        self.assertEqual(again(deep, (flat[0], deep[1]), "main", INPUTS[:3]), (((1,), ()),))

    def test_the_order_and_inputs_that_stand_twice(self):
        other = program_of(TEXT.replace("high ( x : 2 ) : 2 {", "high ( x : 2 ) : 2 { raise ouch ;"))
        inputs = (INPUTS[5], INPUTS[0], INPUTS[2], INPUTS[5], INPUTS[1], INPUTS[2])
        self.assertEqual(again(self.program, other, "main", inputs), (INPUTS[5], INPUTS[2], INPUTS[5], INPUTS[2]))
        self.assertEqual(again(self.program, other, "main", ()), ())

    def test_cut_runs(self):
        other = program_of(TEXT.replace("high ( x : 2 ) : 2 {", "high ( x : 2 ) : 2 { raise ouch ;"))
        inputs = tuple(((at,), ()) for at in range(4))
        self.assertEqual(again(self.program, other, "main", inputs, (24, 1, 4, 8)), inputs[2:])

    def test_errors(self):
        def error(*inputs, bounds=BOUNDS):
            return error_of(again, self.program, self.program, "main", inputs, bounds)

        good = INPUTS[0]
        self.assertIsNone(error(*INPUTS))
        self.assertEqual(error(good, ((4,), ()), ((3,), ())), ("BadInput", "args"))
        self.assertEqual(error(good, ((3,), ()), ((4,), ())), ("BadInput", "answers"))
        for tried in (((3,), ()), ((3,), (3,)), ((0,), (0,)), ((3,), (0, 0)), ((3,), (4,))):
            self.assertEqual(error(good, tried), ("BadInput", "answers"))
        self.assertEqual(error(((4,), (9,))), ("BadInput", "args"))
        self.assertEqual(error(((4,), ()), bounds=(24, 4, 4, 1)), ("TooWide", "main"))
        self.assertEqual(error(bounds=(24, 4, 4, 1)), ("TooWide", "main"))
        self.assertEqual(error(((4,), ()), bounds=(24, 4, 4)), ("BadBounds",))


class Lots(unittest.TestCase):
    def test_plain_ones(self):
        a, b, c, d = INPUTS[:4]
        self.assertEqual(lots_of((), ()), ((), (), ()))
        self.assertEqual(lots_of((a, b), (a, b)), ((a, b), (), ()))
        self.assertEqual(lots_of((a, b), (c, d)), ((), (a, b), (c, d)))
        self.assertEqual(lots_of((a, b, d), (b, c, d)), ((b, d), (a,), (c,)))
        self.assertEqual(lots_of((a,), ()), ((), (a,), ()))
        self.assertEqual(lots_of((), (a,)), ((), (), (a,)))

    def test_answers_part_tests(self):
        self.assertEqual(lots_of((INPUTS[3], INPUTS[4]), (INPUTS[4], INPUTS[5])),
                         ((INPUTS[4],), (INPUTS[3],), (INPUTS[5],)))

    def test_drawn_ones(self):
        for seed in range(200):
            dice = random.Random(seed)
            tests, others = (tuple(one for one in INPUTS if dice.random() < 0.5) for _ in range(2))
            both, first, second = lots_of(tests, others)
            self.assertEqual((set(both), set(first), set(second)),
                             (set(tests) & set(others), set(tests) - set(others), set(others) - set(tests)))
            for lot in (both, first, second):
                self.assertEqual(lot, tuple(sorted(lot)))

    def test_tests_of_two_programs(self):
        first = program_of(TEXT)
        second = program_of(TEXT.replace("if x == 3#2", "if x == 2#2"))
        both, elder, newer = lots_of(tests_of(first, "main", "ways"), tests_of(second, "main", "ways"))
        self.assertEqual((both, elder, newer), ((((0,), ()),), (((3,), (0,)),), (((2,), (0,)),)))


if __name__ == "__main__":
    unittest.main()
