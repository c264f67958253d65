"""The maker: texts that are read, checked and edited, with suites that are kept."""

import random
import unittest

from editing import Editing
from helping import error_of, program_of
from metorshut.bounds import BOUNDS
from metorshut.errors import MakerError
from metorshut.goals import KINDS
from metorshut.keepers import Keeper
from metorshut.maker import Maker
from metorshut.programs import entries_of
from metorshut.reading import read_program
from metorshut.suites import suite_of, tests_of
from metorshut.writing import write_program
from rich import rich_program

TEXT = ("function on ( x : 2 ) : 2 { if x == 3#2 { raise ouch ; } return x ; } function off ( x : 2 ) : 2 { } "
        "entry function main ( x : 2 ) : 2 { if x != x { call x = off ( x ) ; } call x = on ( x ) ; return x ; } "
        "entry function other ( x : 1 ) : 1 { if x { call other ( x ) ; } return x ; }")


def plain_table(program, kind, bounds=BOUNDS):
    rows = []
    for entry in entries_of(program):
        words = [answer[0] for _, answer in suite_of(program, entry, kind, bounds)]
        counts = [words.count(word) for word in ("met", "shut", "open")]
        rows.append((entry, *counts, tests_of(program, entry, kind, bounds)))
    return tuple(rows)


def make(text, kind="ways", bounds=BOUNDS):
    return Maker(text, kind, bounds=bounds)


class MakerTest(unittest.TestCase):
    def setUp(self):
        self.maker = Maker(TEXT)

    def state(self):
        maker = self.maker
        return (maker.text(), maker.table(), [(maker.suite(row[0]), maker.tests(row[0])) for row in maker.table()])

    def told(self, text):
        """The maker stands where a new one would."""
        other = Maker(text)
        self.assertEqual(self.maker.text(), other.text())
        self.assertEqual(self.maker.table(), other.table())


class Making(MakerTest):
    def test_text(self):
        self.assertEqual(self.maker.text(), write_program(program_of(TEXT)))
        self.assertEqual(Maker(self.maker.text()).text(), self.maker.text())

    def test_table(self):
        self.assertEqual(self.maker.table(), (
            ("main", 3, 1, 0, (((0,), ()), ((3,), ()))),
            ("other", 2, 0, 0, (((0,), ()), ((1,), ()))),
        ))
        self.assertEqual(Maker(TEXT, "ends").table(), (
            ("main", 2, 1, 0, (((0,), ()), ((3,), ()))), ("other", 1, 0, 1, (((0,), ()),)),
        ))

    def test_kinds_and_bounds(self):
        program = program_of(TEXT)
        for kind in KINDS:
            for bounds in (BOUNDS, (2, 4, 4, 8), (24, 1, 4, 2)):
                self.assertEqual(make(TEXT, kind, bounds).table(), plain_table(program, kind, bounds))
                self.assertEqual(Maker.of(program, kind, bounds=bounds).table(), plain_table(program, kind, bounds))
        self.assertEqual(Maker(TEXT, kind="pairs").table(), plain_table(program, "pairs"))
        self.assertEqual(Maker.of(program, kind="pairs").table(), plain_table(program, "pairs"))

    def test_suites_and_tests(self):
        program = program_of(TEXT)
        for entry in ("main", "other"):
            self.assertEqual(self.maker.suite(entry), suite_of(program, entry, "ways"))
            self.assertEqual(self.maker.tests(entry), tests_of(program, entry, "ways"))

    def test_of(self):
        maker = Maker.of(program_of(TEXT))
        self.assertIsInstance(maker, Maker)
        self.assertEqual((maker.text(), maker.table()), (self.maker.text(), self.maker.table()))
        self.assertEqual(error_of(Maker.of, ()), ("BadText", 0))
        self.assertEqual(error_of(Maker.of, (program_of(TEXT)[2],)), ("Unknown", "off"))

    def test_no_entries(self):
        self.assertEqual(Maker("record box { }").table(), ())

    def test_the_order_of_errors(self):
        many = "entry function wide8 ( x : 8 ) : 1 { }"
        bad = (24, 4, 4)
        self.assertEqual(error_of(make, "record", "ways", bad), ("BadBounds",))
        self.assertEqual(error_of(make, "record record", "ways", (24, 4, 4, 2)), ("BadText", 1))
        self.assertEqual(error_of(make, ""), ("BadText", 0))
        self.assertEqual(error_of(make, "record a { } record a { } }"), ("BadText", 8))
        self.assertEqual(error_of(make, many + " record a { x : b ; }", "ways", (24, 4, 4, 2)), ("Unknown", "b"))
        self.assertEqual(error_of(make, many + " record wide8 { }", "ways", (24, 4, 4, 2)), ("Twice", "wide8"))
        self.assertEqual(error_of(make, many, "ways", (24, 4, 4, 2)), ("TooWide", "wide8"))
        looks = "entry function main ( x : 8 ) : 1 { " + "if x == 1#8 { } " * 11 + "}"
        self.assertEqual(error_of(make, looks, "pairs"), ("TooMany", "goals"))
        self.assertEqual(error_of(make, looks, "pairs", (24, 4, 4, 2)), ("TooWide", "main"))

    def test_too_many_classes(self):
        looks = "".join(f"if x == {at}#8 {{ }} " for at in range(16))
        maker = Maker("entry function main ( x : 8 ) : 1 { " + looks + "}")
        self.assertEqual(error_of(maker.table), ("TooMany", "classes"))
        self.assertEqual(error_of(maker.tests, "main"), ("TooMany", "classes"))
        self.assertEqual(len(maker.suite("main")), 32)


class Editions(MakerTest):
    def test_put(self):
        self.assertEqual(self.maker.put("function off ( x : 2 ) : 2 { raise late ; }"), ())
        self.told(TEXT.replace("off ( x : 2 ) : 2 { }", "off ( x : 2 ) : 2 { raise late ; }"))
        more = " entry function new ( ) : 1 { } record box { }"
        self.assertEqual(self.maker.put("function on ( x : 2 ) : 2 { return x ; }" + more), ("main", "new"))
        text = TEXT.replace("off ( x : 2 ) : 2 { }", "off ( x : 2 ) : 2 { raise late ; }")
        self.told(text.replace("if x == 3#2 { raise ouch ; } ", "") + more)
        # One batch.
        self.maker.undo()
        self.maker.undo()
        self.told(TEXT)
        self.assertEqual(error_of(self.maker.undo), ("NoEdition",))

    def test_put_of_one_name_twice(self):
        self.assertEqual(self.maker.put("function late ( ) : 1 { raise a ; } function late ( ) : 1 { }"), ())
        self.told(TEXT + " function late ( ) : 1 { }")

    def test_declarations_that_are_right_together_only(self):
        self.assertEqual(self.maker.put("function first ( ) : 1 { call second ( ) ; } function second ( ) : 1 { }"), ())
        self.assertEqual(error_of(self.maker.put, "function third ( ) : 1 { call fourth ( ) ; }"), ("Unknown", "fourth"))

    def test_drop(self):
        self.assertEqual(self.maker.drop("other"), ())
        self.told(TEXT[:TEXT.index("entry function other")])
        self.assertEqual(self.maker.drop("main", "on", "off"), ())
        self.assertEqual((self.maker.text(), self.maker.table()), ("", ()))
        self.maker.undo()
        self.told(TEXT[:TEXT.index("entry function other")])
        self.assertEqual(self.maker.drop(), ())
        self.maker.undo()
        self.told(TEXT[:TEXT.index("entry function other")])

    def test_rename(self):
        self.assertEqual(self.maker.rename("off", "new"), ("main",))
        self.told(TEXT.replace("off (", "new ("))
        self.assertEqual(self.maker.rename("other", "a"), ("a",))
        self.assertEqual([row[0] for row in self.maker.table()], ["main", "a"])

    def test_undo_and_redo(self):
        self.maker.rename("off", "new")
        self.maker.drop("other")
        self.assertEqual(self.maker.undo(), ())
        self.told(TEXT.replace("off (", "new ("))
        self.assertEqual(self.maker.undo(), ())
        self.told(TEXT)
        self.assertEqual(self.maker.redo(), ())
        self.told(TEXT.replace("off (", "new ("))
        self.assertEqual(self.maker.put("record box { }"), ())
        self.assertEqual(error_of(self.maker.redo), ("NoEdition",))

    def test_errors_leave_all_as_it_was(self):
        self.maker.put("record box { }")
        self.maker.undo()
        before = self.state()
        looks = " ".join(["if 1#1 { }"] * 11)
        for action, args, error in (
                (self.maker.put, ("function f ( ) : 1 { ",), ("BadText", 7)),
                (self.maker.put, ("",), ("BadText", 0)),
                (self.maker.put, ("record a { } function f ( ) : 1 { call g ( ) ; } ;",), ("BadText", 17)),
                (self.maker.put, ("record a { } function f ( ) : 1 { call g ( ) ; }",), ("Unknown", "g")),
                (self.maker.put, ("record a { } record a { x : 9 ; }",), ("BadNumber", 9)),
                (self.maker.put, ("record a { } entry function f ( x : 8 , y : 1 ) : 1 { }",), ("TooWide", "f")),
                (self.maker.drop, ("off",), ("Unknown", "off")),
                (self.maker.drop, ("other", "none"), ("Unknown", "none")),
                (self.maker.drop, ("other", "other"), ("Unknown", "other")),
                (self.maker.rename, ("none", "off"), ("Unknown", "none")),
                (self.maker.rename, ("on", "off"), ("Twice", "off")),
                (self.maker.rename, ("on", "on"), ("Twice", "on")),
                (self.maker.undo, (), ("NoEdition",))):
            self.assertEqual(error_of(action, *args), error)
            self.assertEqual(self.state(), before)
        self.maker.redo()
        self.assertIn("record box", self.maker.text())
        maker = Maker(TEXT, "pairs", bounds=(24, 4, 4, 2))
        before = maker.table()
        self.assertEqual(error_of(maker.put, "function off ( x : 2 ) : 2 { " + looks + " }"), ("TooMany", "goals"))
        self.assertEqual(error_of(maker.put, "entry function a ( x : 3 ) : 2 { }"), ("TooWide", "a"))
        self.assertEqual(maker.table(), before)
        self.assertEqual(error_of(maker.undo), ("NoEdition",))

    def test_against_a_keeper(self):
        done = 0
        for seed in range(60):
            dice = random.Random(seed)
            program = rich_program(seed)
            kind = ("ways", "ends")[seed % 2]
            maker, keeper = Maker.of(program, kind, bounds=(12, 3, 2, 6)), Keeper(program, kind, bounds=(12, 3, 2, 6))
            for _ in range(5):
                edit = Editing(dice).edit(keeper.edition)
                if edit[0] == "put":
                    action, args = maker.put, (write_program((edit[1],)),)
                    edit = ("put", read_program(args[0])[0])
                else:
                    action, args = (maker.drop, edit[1:]) if edit[0] == "drop" else (maker.rename, edit[1:])
                try:
                    keeper.edit((edit,))
                except MakerError:
                    self.assertEqual(error_of(action, *args), error_of(keeper.edit, (edit,)))
                    continue
                self.assertEqual(action(*args), keeper.worked)
                self.assertEqual(maker.text(), write_program(keeper.edition))
                self.assertEqual([row[0] for row in maker.table()], list(entries_of(keeper.edition)))
                for entry in entries_of(keeper.edition):
                    self.assertEqual(maker.suite(entry), keeper.suite(entry))
                    self.assertEqual(maker.tests(entry), keeper.tests(entry))
                done += 1
        self.assertGreater(done, 100)


if __name__ == "__main__":
    unittest.main()
