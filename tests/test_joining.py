"""Joining two batches of one program."""

import random
import unittest

from drawing import drawn_units
from editing import Editing
from helping import error_of, program_of
from making import made_program
from metorshut.check import check
from metorshut.edits import edited, touched
from metorshut.joining import joined
from metorshut.prints import print_of
from metorshut.programs import declared, entries_of
from metorshut.reading import read_program
from metorshut.suites import suite_of
from metorshut.writing import write_program
from rich import rich_program

TEXT = ("record box { v : 2 ; } function a ( ) : 2 { } function b ( ) : 2 { var r : box ; make r = box ; } "
        "entry function main ( ) : 2 { call a ( ) ; } entry function other ( ) : 2 { call b ( ) ; }")


def put(text):
    return ("put", read_program(text)[0])


def plainly_joined(program, first, second):
    """The joined program, or an error, as point 49 tells it."""
    for batch in (first, second):
        error = error_of(edited, program, batch)
        if error:
            return error
    behind = [edited(program, first), edited(program, second)]
    names = [set(touched(program, first)), set(touched(program, second))]
    if names[0] & names[1]:
        return ("Clash", min(names[0] & names[1]))
    found = []
    for one in program:
        by = [part for part, touches in zip(behind, names) if one[1] in touches]
        one = declared(by[0], one[1]) if by else one
        found += [] if one is None else [one]
    for part in behind:
        found += [one for one in part if declared(program, one[1]) is None]
    return error_of(check, tuple(found)) or tuple(found)


class Drawn(unittest.TestCase):
    def test_against_its_words(self):
        seen = {}
        for seed in range(900):
            dice = random.Random(seed)
            program = rich_program(seed) if seed % 3 else made_program(seed)
            editing = Editing(dice)
            first, second = editing.batch(program), editing.batch(program)
            told = plainly_joined(program, first, second)
            word = told[0] if told and isinstance(told[0], str) else None
            if word is None:
                self.assertEqual(joined(program, first, second), told)
            else:
                self.assertEqual(error_of(joined, program, first, second), told, (seed, first, second))
            seen[word] = seen.get(word, 0) + 1
        self.assertGreater(min(seen[None], seen["Clash"], seen["Unknown"]), 40)

    def test_answers_that_stay(self):
        stayed = 0
        for seed, program, unit, bounds in drawn_units(0, 220, (8,)):
            dice = random.Random(seed)
            editing = Editing(dice)
            first, second = editing.batch(program), editing.batch(program)
            if error_of(joined, program, first, second):
                continue
            both = joined(program, first, second)
            for one, other in ((first, second), (second, first)):
                behind, names = edited(program, one), set(touched(program, other))
                for entry in entries_of(both):
                    if entry not in entries_of(behind):
                        continue
                    for kind in ("ways", "ends"):
                        if {name for name, _ in print_of(behind, entry, kind, bounds)} & names:
                            continue
                        answers = dict(suite_of(behind, entry, kind, bounds))
                        for goal, answer in suite_of(both, entry, kind, bounds):
                            self.assertEqual(answers.get(goal, answer), answer)
                        stayed += names != set()
        self.assertGreater(stayed, 60)


class Joined(unittest.TestCase):
    def setUp(self):
        self.program = program_of(TEXT)

    def told(self, first, second, text):
        self.assertEqual(write_program(joined(self.program, first, second)), write_program(program_of(text)))

    def error(self, first, second, *error):
        self.assertEqual(error_of(joined, self.program, first, second), error)

    def test_nothing(self):
        self.told((), (), TEXT)
        self.assertEqual(joined((), (), ()), ())

    def test_both_change_something(self):
        first = (put("function a ( ) : 2 { return 1#2 ; }"),)
        second = (put("function b ( ) : 2 { return 2#2 ; }"), ("drop", "box"))
        text = TEXT.replace("a ( ) : 2 { }", "a ( ) : 2 { return 1#2 ; }").replace("record box { v : 2 ; } ", "")
        text = text.replace("var r : box ; make r = box ;", "return 2#2 ;")
        self.told(first, second, text)
        self.told(second, first, text)

    def test_new_ones_stand_at_the_end(self):
        first = (put("function new ( ) : 1 { }"), put("record late { }"))
        second = (put("function early ( ) : 1 { }"), ("drop", "other"))
        rest = TEXT[:TEXT.index("entry function other")]
        self.told(first, second, rest + "function new ( ) : 1 { } record late { } function early ( ) : 1 { }")
        self.told(second, first, rest + "function early ( ) : 1 { } function new ( ) : 1 { } record late { }")

    def test_moves_do_not_count(self):
        one = declared(self.program, "a")
        move = (("drop", "a"), ("put", one))
        self.told(move, (), TEXT)
        self.told(move, move, TEXT)
        self.told((("name", "a", "x"), ("name", "x", "a")), move, TEXT)
        other = TEXT.replace("a ( ) : 2 { }", "a ( ) : 2 { return 1#2 ; }")
        self.told((("drop", "a"), put("function a ( ) : 2 { return 1#2 ; }")), move, other)

    def test_renames(self):
        first, second = (("name", "a", "new"),), (("name", "b", "late"),)
        text = ("record box { v : 2 ; } entry function main ( ) : 2 { call new ( ) ; } "
                "entry function other ( ) : 2 { call late ( ) ; } function new ( ) : 2 { } "
                "function late ( ) : 2 { var r : box ; make r = box ; }")
        self.told(first, second, text)

    def test_clashes(self):
        a, b = put("function a ( ) : 2 { return 1#2 ; }"), put("function b ( ) : 2 { return 1#2 ; }")
        self.error((a,), (a,), "Clash", "a")
        self.error((b, a), (a, b), "Clash", "a")
        self.error((a, b), (b,), "Clash", "b")
        # A rename touches what uses the name.
        self.error((("name", "a", "new"),), (put("entry function main ( ) : 2 { }"),), "Clash", "main")
        self.error((("name", "box", "new"),), (b,), "Clash", "b")
        new = put("function new ( ) : 1 { }")
        self.error((new,), (new,), "Clash", "new")
        self.error((("name", "a", "new"),), (new,), "Clash", "new")
        self.error((("drop", "other"),), (("drop", "other"),), "Clash", "other")

    def test_the_order_of_errors(self):
        a = put("function a ( ) : 2 { return 1#2 ; }")
        bad, worse = ("drop", "none"), ("name", "a", "b")
        self.error((a, bad), (a, worse), "Unknown", "none")
        self.error((a, worse), (a, bad), "Twice", "b")
        self.error((a,), (a, bad), "Unknown", "none")
        self.error((("drop", "a"),), (a, bad), "Unknown", "a")
        self.error((a, put("function new ( ) : 1 { return 1#2 ; }")), (a, bad), "BadWidth", "return")
        # A clash goes ahead of what the checker says of the joined program.
        many = tuple(put(f"record r{at} {{ }}") for at in range(15))
        more = tuple(put(f"record s{at} {{ }}") for at in range(15))
        self.error(many, more, "TooLarge", "program")
        self.error((*many, a), (*more, a), "Clash", "a")

    def test_what_the_checker_says_of_the_joined_program(self):
        first = (put("entry function main ( ) : 2 { }"), ("drop", "a"))
        self.error(first, (put("function late ( ) : 2 { call a ( ) ; }"),), "Unknown", "a")
        first = (put("function a ( x : 1 ) : 2 { }"), put("entry function main ( ) : 2 { }"))
        self.error(first, (put("function late ( ) : 2 { call a ( ) ; }"),), "BadWidth", "call")


if __name__ == "__main__":
    unittest.main()
