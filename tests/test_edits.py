"""Edits of programs, and the names that they touch."""

import random
import unittest

from drawing import drawn_units
from editing import Editing, plainly_done
from helping import error_of, program_of
from making import made_program
from metorshut.check import check
from metorshut.edits import edited, touched
from metorshut.reading import read_program
from metorshut.writing import text_of, write_program
from rich import rich_program

TEXT = ("record box { v : 2 ; n : box ; } external ask ( a : 2 ) : 2 needs 1#1 gives 1#1 ; "
        "function box2 ( x : box , v : 2 ) : box { var ask : box ; var help : 2 [ 2 ] ; make ask = box ; "
        "let ask . v = help [ v ] ; try { call v = help ( v ) ; } catch help { call v = ask ( v ) ; raise box ; } "
        "catch box { while v == v { if 1#1 { make x = box ; } else { call help ( v ) ; } } } return ask ; } "
        "function help ( n : 2 ) : 2 { var b : box ; call b = box2 ( null , n ) ; return n ; } "
        "entry function main ( ask : 2 ) : 2 { call ask = ask ( ask ) ; call help ( ask ) ; return ask ; }")


def one_of(text):
    return read_program(text)[0]


class Edited(unittest.TestCase):
    def setUp(self):
        self.program = program_of(TEXT)

    def told(self, batch, text):
        found = edited(self.program, batch)
        self.assertEqual(write_program(found), write_program(read_program(text)))
        self.assertEqual(self.program, program_of(TEXT))

    def test_nothing(self):
        self.assertEqual(edited(self.program, ()), self.program)
        self.assertEqual(edited((), ()), ())

    def test_a_put_in_its_place(self):
        other = "function help ( n : 2 ) : 2 { raise new ; }"
        at = TEXT.index("function help")
        self.told((("put", one_of(other)),), TEXT[:at] + other + TEXT[TEXT.index("entry function"):])

    def test_a_put_at_the_end(self):
        other = "function new ( n : box ) : 2 { call main ( 1#2 ) ; }"
        self.told((("put", one_of(other)),), TEXT + other)
        record = "record new { }"
        self.told((("put", one_of(record)), ("put", one_of(record))), TEXT + record)

    def test_a_drop(self):
        self.told((("drop", "main"),), TEXT[:TEXT.index("entry function")])

    def test_a_drop_and_a_put_of_one_name(self):
        at, behind = TEXT.index("function help"), TEXT.index("entry function")
        help_text = TEXT[at:behind]
        self.told((("drop", "help"), ("put", one_of(help_text))), TEXT[:at] + TEXT[behind:] + help_text)
        self.told((("put", one_of("record new { }")), ("drop", "new")), TEXT)

    def test_a_function_renamed(self):
        # The array, the raised name and the catch that are called help stay as they are.
        text = TEXT.replace("function help", "function new").replace("call v = help (", "call v = new (")
        self.told((("name", "help", "new"),), text.replace("call help (", "call new ("))

    def test_a_record_renamed(self):
        # So do the name that is raised, and the function box2.
        text = TEXT.replace("record box", "record new").replace(": box", ": new").replace("= box ;", "= new ;")
        self.told((("name", "box", "new"),), text)
        self.assertIn("raise box ;", text)
        self.assertIn("n : new ;", text)

    def test_an_external_renamed(self):
        # So do variables.
        text = TEXT.replace("external ask", "external new").replace("= ask (", "= new (")
        self.told((("name", "ask", "new"),), text)
        self.assertIn("call ask = new ( ask ) ; call help ( ask ) ; return ask ;", text)

    def test_there_and_back(self):
        for name in ("box", "ask", "help", "box2", "main"):
            self.told((("name", name, "new"), ("name", "new", name)), TEXT)

    def test_names_exchanged(self):
        batch = (("name", "help", "new"), ("name", "main", "help"), ("name", "new", "main"))
        found = edited(self.program, batch)
        self.assertEqual([one[1] for one in found], ["box", "ask", "box2", "main", "help"])
        self.assertEqual(found[4][6][1], ("call", None, "main", (("name", "ask"),)))

    def test_what_is_put_is_renamed_later(self):
        put = ("put", one_of("function new ( ) : 1 { call help ( 1#2 ) ; }"))
        found = edited(self.program, (put, ("name", "help", "late"), ("name", "new", "last")))
        self.assertEqual(text_of(found[-1]), text_of(one_of("function last ( ) : 1 { call late ( 1#2 ) ; }")))

    def test_unknown_and_twice(self):
        for batch, error in (
                ((("drop", "none"),), ("Unknown", "none")),
                ((("name", "none", "new"),), ("Unknown", "none")),
                ((("name", "none", "help"),), ("Unknown", "none")),
                ((("name", "none", "none"),), ("Unknown", "none")),
                ((("name", "help", "main"),), ("Twice", "main")),
                ((("name", "help", "help"),), ("Twice", "help")),
                ((("drop", "main"), ("drop", "main")), ("Unknown", "main")),
                ((("name", "help", "new"), ("drop", "help")), ("Unknown", "help")),
                ((("name", "help", "new"), ("name", "main", "new")), ("Twice", "new")),
                ((("name", "help", "help"), ("drop", "none")), ("Twice", "help")),
                ((("drop", "none"), ("name", "help", "help")), ("Unknown", "none"))):
            self.assertEqual(error_of(edited, self.program, batch), error, batch)
            self.assertEqual(error_of(touched, self.program, batch), error, batch)

    def test_what_the_checker_raises(self):
        many = tuple(("put", one_of(f"record r{at} {{ }}")) for at in range(20))
        wide = one_of("entry function main ( x : 8 , y : 1 ) : 1 { }")
        for batch, error in (
                ((("drop", "help"),), ("Unknown", "help")),
                ((("drop", "box"),), ("Unknown", "box")),
                ((("put", one_of("record help { }")),), ("BadUse", "help")),
                (many, ("TooLarge", "program")),
                ((("put", wide),), ("TooWide", "main")),
                ((("put", one_of("function new ( ) : 1 { return 1#2 ; }")),), ("BadWidth", "return")),
                ((("put", one_of("external new ( ) : 1 needs 1#1 gives 0#1 ;")),), ("Unmet", "new", ())),
                # An error of an edit goes ahead of it.
                ((("drop", "help"), ("drop", "none")), ("Unknown", "none"))):
            self.assertEqual(error_of(edited, self.program, batch), error, batch)
            self.assertEqual(error_of(touched, self.program, batch), error, batch)
        # Only the program behind the batch is checked.
        last = ("put", self.program[3])
        self.assertEqual(edited(self.program, (("drop", "help"), last))[4], self.program[3])
        self.assertEqual(len(edited(self.program, (*many, ("drop", "r0")))), 24)

    def test_drawn_ones(self):
        done = failed = 0
        for seed in range(700):
            dice = random.Random(seed)
            program = rich_program(seed) if seed % 3 else made_program(seed)
            batch = Editing(dice).batch(program)
            told = plainly_done(program, batch)
            error = told if isinstance(told[0], str) else error_of(check, told)
            self.assertEqual(error_of(edited, program, batch), error, (seed, batch))
            if error is None:
                self.assertEqual(edited(program, batch), told)
                done += 1
            failed += error is not None
        self.assertGreater(min(done, failed), 100)


class Touched(unittest.TestCase):
    def setUp(self):
        self.program = program_of(TEXT)

    def told(self, *batch):
        return touched(self.program, batch)

    def test_plain_ones(self):
        self.assertEqual(self.told(), ())
        self.assertEqual(self.told(("drop", "main")), ("main",))
        self.assertEqual(self.told(("put", one_of("record new { }")), ("drop", "main")), ("main", "new"))
        self.assertEqual(self.told(("put", one_of("function help ( n : 2 ) : 2 { }"))), ("help",))

    def test_as_they_are_and_moved(self):
        help_function = self.program[3]
        self.assertEqual(self.told(("put", help_function)), ())
        self.assertEqual(self.told(("drop", "help"), ("put", help_function)), ())
        self.assertEqual(self.told(("name", "help", "new"), ("name", "new", "help")), ())
        self.assertEqual(self.told(("drop", "help"), ("put", help_function), ("drop", "main")), ("main",))

    def test_names(self):
        self.assertEqual(self.told(("name", "help", "new")), ("box2", "help", "main", "new"))
        self.assertEqual(self.told(("name", "box", "new")), ("box", "box2", "help", "new"))
        self.assertEqual(self.told(("name", "ask", "new")), ("ask", "box2", "main", "new"))
        self.assertEqual(self.told(("name", "main", "new")), ("main", "new"))
        twin = one_of("function twin ( n : 2 ) : 2 { }")
        plain = ("put", one_of("function help ( n : 2 ) : 2 { }"))
        # What is called help behind it has another body.
        self.assertEqual(self.told(("put", twin), ("drop", "help"), ("name", "twin", "help")), ("help",))
        self.assertEqual(self.told(plain, ("put", twin)), ("help", "twin"))

    def test_drawn_ones(self):
        """Only texts count, wherever they stand."""
        moved = 0
        for seed, program, unit, bounds in drawn_units(0, 100):
            batch = Editing(random.Random(seed)).batch(program)
            if error_of(edited, program, batch):
                continue
            texts = [{one[1]: text_of(one) for one in part} for part in (program, edited(program, batch))]
            names = sorted({*texts[0], *texts[1]})
            told = tuple(name for name in names if texts[0].get(name) != texts[1].get(name))
            self.assertEqual(touched(program, batch), told)
            one = program[0]
            self.assertEqual(touched(program, (*batch, ("put", one))) if one in edited(program, batch) else told, told)
            moved += told == ()
        self.assertGreater(moved, 3)


if __name__ == "__main__":
    unittest.main()
