"""Suites that are kept while a program is edited."""

import random
import unittest

from editing import Editing, is_entry
from helping import error_of, program_of
from making import made_program
from metorshut.bounds import BOUNDS
from metorshut.check import check
from metorshut.closures import is_open
from metorshut.edits import edited, touched
from metorshut.errors import MakerError, NoEdition, TooMany, Unknown
from metorshut.goals import KINDS, goals_of
from metorshut.keepers import Keeper
from metorshut.prints import print_of
from metorshut.programs import declared, entries_of
from metorshut.reading import read_program
from metorshut.suites import suite_of, tests_of
from metorshut.writing import text_of
from rich import rich_program

HELPS = ("function on ( x : 2 ) : 2 { if x == 3#2 { raise ouch ; } return x ; } "
         "function off ( x : 2 ) : 2 { if x == 1#2 { raise bad ; } return x ; } ")
TEXT = HELPS + ("entry function main ( x : 2 ) : 2 { if x != x { call x = off ( x ) ; } call x = on ( x ) ; return x ; } "
                "entry function other ( x : 1 ) : 1 { assert x ; return x ; }")


def one_of(text):
    return read_program(text)[0]


def with_entries(dice, program):
    """The program with more entries."""
    found = []
    for one in program:
        if one[0] == "function" and is_open(program, one[1]) and sum(kind for _, kind in one[2]) <= 6:
            one = (*one[:4], max(one[4], dice.randrange(2)), *one[5:])
        found.append(one)
    check(tuple(found))
    return tuple(found)


def tests_or_error(action, *args):
    return error_of(action, *args) or action(*args)


class Model:
    """What point 47 says, worked out anew each time."""

    def __init__(self, program, kind, bounds):
        self.kind, self.bounds = kind, bounds
        self.past, self.future = [], []
        self.now = self.edition(program)
        self.worked = entries_of(program)

    def edition(self, program):
        # The goals are listed when all entries are worked out.
        late = None
        for entry in entries_of(program):
            try:
                suite_of(program, entry, self.kind, self.bounds)
            except TooMany as error:
                if error.part != "goals":
                    raise
                late = late or error
        if late is not None:
            raise late
        return program

    def edit(self, batch):
        elder = self.now
        program = self.edition(edited(elder, batch))
        worked = []
        for entry in entries_of(program):
            stands = is_entry(elder, entry)
            if stands:
                for name, text in print_of(elder, entry, self.kind, self.bounds):
                    one = declared(program, name)
                    stands = stands and one is not None and text_of(one) == text
            if not stands:
                worked.append(entry)
        self.past.append(elder)
        self.future = []
        self.now, self.worked = program, tuple(worked)

    def move(self, start, end):
        if not start:
            raise NoEdition()
        end.append(self.now)
        self.now, self.worked = start.pop(), ()


class KeeperTest(unittest.TestCase):
    def is_as_made_anew(self, keeper, kind, bounds=BOUNDS):
        program = keeper.edition
        for entry in entries_of(program):
            self.assertEqual(keeper.suite(entry), suite_of(program, entry, kind, bounds))
            self.assertEqual(tests_or_error(keeper.tests, entry), tests_or_error(tests_of, program, entry, kind, bounds))
            self.assertEqual(keeper.printed(entry), print_of(program, entry, kind, bounds))


class Drawn(KeeperTest):
    def rows(self, seeds, kinds, rounds):
        for seed in seeds:
            dice = random.Random(seed)
            program = with_entries(dice, rich_program(seed) if seed % 3 else made_program(seed))
            bounds = (dice.choice((8, 12, 24)), dice.choice((1, 2, 4)), dice.choice((0, 1, 4)), dice.choice((4, 6)))
            kind = kinds[seed % len(kinds)]
            error = error_of(Model, program, kind, bounds)
            self.assertEqual(error_of(make_keeper, program, kind, bounds), error)
            if error is None:
                self.go_on(dice, Keeper(program, kind, bounds=bounds), Model(program, kind, bounds), rounds)

    def go_on(self, dice, keeper, model, rounds):
        self.assertEqual(keeper.worked, model.worked)
        self.is_as_made_anew(keeper, model.kind, model.bounds)
        for _ in range(rounds):
            chosen = dice.randrange(10)
            if chosen < 7:
                batch = Editing(dice).batch(model.now)
                error = error_of(model.edit, batch)
                self.assertEqual(error_of(keeper.edit, batch), error, (model.now, batch))
                self.seen[error and error[0]] = self.seen.get(error and error[0], 0) + 1
            elif chosen < 9:
                self.assertEqual(error_of(keeper.undo), error_of(model.move, model.past, model.future))
            else:
                self.assertEqual(error_of(keeper.redo), error_of(model.move, model.future, model.past))
            self.assertEqual(keeper.edition, model.now)
            self.assertEqual(keeper.worked, model.worked)
            self.kept += len(model.worked) < len(entries_of(model.now))
            self.is_as_made_anew(keeper, model.kind, model.bounds)

    def setUp(self):
        self.seen = {}
        self.kept = 0

    def test_ways_pairs_and_ends(self):
        self.rows(range(90), KINDS[:3], 9)
        self.assertGreater(self.seen[None], 100)
        self.assertGreater(self.kept, 100)
        self.assertLessEqual({None, "Unknown", "Twice"}, set(self.seen))

    def test_mutants(self):
        self.rows(range(26), KINDS[3:], 6)
        self.assertGreater(self.seen[None], 20)
        self.assertGreater(self.kept, 20)


def make_keeper(program, kind, bounds):
    return Keeper(program, kind, bounds=bounds)


class Kept(KeeperTest):
    def keeper(self, text=TEXT, kind="ways", bounds=BOUNDS):
        return Keeper(program_of(text), kind, bounds=bounds)

    def test_when_it_is_made(self):
        keeper = self.keeper()
        self.assertEqual(keeper.edition, program_of(TEXT))
        self.assertEqual(keeper.worked, ("main", "other"))
        self.assertEqual([name for name, _ in keeper.printed("main")], ["main", "on"])
        self.assertEqual(Keeper(keeper.edition).suite("main"), suite_of(keeper.edition, "main", "ways"))
        self.assertEqual(Keeper(keeper.edition, kind="ends").suite("main"), suite_of(keeper.edition, "main", "ends"))
        self.assertEqual(Keeper(keeper.edition, bounds=(2, 4, 4, 8)).suite("main"),
                         suite_of(keeper.edition, "main", "ways", (2, 4, 4, 8)))
        self.assertEqual(Keeper(()).worked, ())

    def worked(self, batch, told, text=TEXT, kind="ways", bounds=BOUNDS):
        keeper = self.keeper(text, kind, bounds)
        keeper.edit(batch)
        self.assertEqual(keeper.worked, told, batch)
        self.is_as_made_anew(keeper, kind, bounds)

    def test_what_is_worked_out(self):
        on, off = program_of(TEXT)[:2]
        for kind in KINDS[:3]:
            # A function that no run meets.
            self.worked((("put", one_of("function off ( x : 2 ) : 2 { raise late ; }")),), (), kind=kind)
            self.worked((("put", one_of("function off ( x : 2 ) : 2 { if x == x { } }")),), (), kind=kind)
            self.worked((("put", (*off[:3], 2, 1, *off[5:])),), ("off",), kind=kind)
            # One that is met.
            self.worked((("put", one_of("function on ( x : 2 ) : 2 { raise late ; }")),), ("main",), kind=kind)
            self.worked((("put", on), ("put", off)), (), kind=kind)
            self.worked((("drop", "on"), ("put", on)), (), kind=kind)
            self.worked((), (), kind=kind)
            # New names.
            self.worked((("put", one_of("entry function new ( ) : 1 { }")),), ("new",), kind=kind)
            self.worked((("put", one_of("function new ( ) : 1 { }")),), (), kind=kind)
            self.worked((("name", "other", "new"),), ("new",), kind=kind)
            # The call is in the text of main.
            self.worked((("name", "off", "new"),), ("main",), kind=kind)
            self.worked((("name", "on", "new"), ("name", "new", "on")), (), kind=kind)
            self.worked((("drop", "other"),), (), kind=kind)

    def test_a_name_of_the_print_that_is_gone(self):
        text = "record box { } function f ( ) : 1 { } entry function main ( ) : 1 { call f ( ) ; }"
        new = one_of("entry function main ( ) : 1 { }")
        self.worked((("put", new), ("drop", "f")), ("main",), text)
        self.worked((("drop", "box"),), (), text)

    def test_an_entry_that_was_a_function_before(self):
        text = "function f ( ) : 1 { } entry function main ( ) : 1 { call f ( ) ; }"
        self.worked((("put", one_of("entry function f ( ) : 1 { }")),), ("f", "main"), text)
        self.worked((("put", one_of("function main ( ) : 1 { call f ( ) ; }")),), (), text)

    def test_goals_of_what_no_run_meets_are_listed_anew(self):
        for kind, goal in (("ways", ("way", "off", 1, 1)), ("pairs", ("pair", ("off", 1, 1), ("main", 0, 1))),
                           ("ends", ("end", "raises", "late"))):
            keeper = self.keeper(kind=kind)
            self.assertNotIn(goal, dict(keeper.suite("main")))
            keeper.edit((("put", one_of("function off ( x : 2 ) : 2 { if 1#1 { } if 0#1 { raise late ; } }")),))
            self.assertEqual(keeper.worked, ())
            self.assertEqual(dict(keeper.suite("main"))[goal], ("shut",))
            keeper.undo()
            self.assertNotIn(goal, dict(keeper.suite("main")))
        # What is called from there comes into the closure, and out of it.
        keeper = self.keeper()
        keeper.edit((("put", one_of("function off ( x : 2 ) : 2 { call other ( 1#1 ) ; }")),))
        self.assertEqual(keeper.worked, ())
        self.assertEqual(dict(keeper.suite("main"))["way", "other", 0, 1], ("shut",))
        # A move changes the order of the goals only.
        on = keeper.edition[0]
        keeper.edit((("drop", "on"), ("put", on)))
        self.assertEqual(keeper.worked, ())
        self.is_as_made_anew(keeper, "ways")

    def test_new_goals_where_a_run_is_cut(self):
        keeper = self.keeper(TEXT.replace("return x ; } entry", "if x == 2#2 { call main ( x ) ; } return x ; } entry"))
        keeper.edit((("put", one_of("function off ( x : 2 ) : 2 { if 1#1 { } if 0#1 { raise late ; } }")),))
        self.assertEqual(keeper.worked, ())
        self.assertEqual(dict(keeper.suite("main"))["way", "off", 1, 1], ("open", "depth", ((2,), ())))

    def test_mutants(self):
        text = TEXT.replace("if x != x { call x = off ( x ) ; } ", "if x != x { if x != x { call x = off ( x ) ; } } ")
        new = ("put", one_of("function off ( x : 2 ) : 2 { return x + 1#2 + 1#2 ; }"))
        # A mutant of main leads to off, where one change is enough.
        self.worked((new,), ("main",), TEXT, "mutants")
        self.worked((new,), (), text, "mutants")
        keeper = self.keeper(text, "mutants")
        keeper.edit((new,))
        self.assertEqual(dict(keeper.suite("main"))["mutant", "off", 3], ("shut",))
        keeper.edit((("name", "other", "new"),))
        self.assertEqual(keeper.worked, ("new",))
        self.is_as_made_anew(keeper, "mutants")

    def test_narrow_bounds(self):
        on = ("put", one_of("function on ( x : 2 ) : 2 { }"))
        deep = "entry function main ( ) : 1 { call one ( ) ; } function one ( ) : 1 { call two ( ) ; } " \
               "function two ( ) : 1 { call three ( ) ; } function three ( ) : 1 { }"
        self.worked((on,), ("main",), bounds=(24, 1, 4, 8))
        self.worked((("put", one_of("function three ( ) : 1 { return 1#1 ; }")),), (), deep, bounds=(24, 2, 4, 8))
        self.worked((("put", one_of("function two ( ) : 1 { return 1#1 ; }")),), ("main",), deep, bounds=(24, 2, 4, 8))

    def test_what_is_returned_belongs_to_the_caller(self):
        keeper = self.keeper()
        for found in (keeper.edition, keeper.worked, keeper.suite("main"), keeper.tests("main"), keeper.printed("main")):
            self.assertIsInstance(found, tuple)
        with self.assertRaises(AttributeError):
            keeper.edition = ()
        with self.assertRaises(AttributeError):
            keeper.worked = ()


class Editions(KeeperTest):
    FIRST = (("put", one_of("function off ( x : 2 ) : 2 { }")),)
    SECOND = (("drop", "other"),)
    THIRD = (("put", one_of("entry function new ( ) : 1 { }")),)

    def setUp(self):
        self.keeper = Keeper(program_of(TEXT))

    def test_undo_and_redo(self):
        keeper = self.keeper
        programs = [keeper.edition]
        for batch in (self.FIRST, self.SECOND, self.THIRD):
            self.assertIsNone(keeper.edit(batch))
            programs.append(keeper.edition)
        self.assertEqual(keeper.worked, ("new",))
        for at in (2, 1, 0):
            self.assertIsNone(keeper.undo())
            self.assertEqual((keeper.edition, keeper.worked), (programs[at], ()))
            self.is_as_made_anew(keeper, "ways")
        self.assertEqual(error_of(keeper.undo), ("NoEdition",))
        for at in (1, 2, 3):
            self.assertIsNone(keeper.redo())
            self.assertEqual((keeper.edition, keeper.worked), (programs[at], ()))
        self.assertEqual(error_of(keeper.redo), ("NoEdition",))
        self.assertEqual(keeper.edition, programs[3])

    def test_a_batch_behind_an_undo(self):
        keeper = self.keeper
        keeper.edit(self.FIRST)
        keeper.edit(self.SECOND)
        keeper.undo()
        keeper.edit(self.THIRD)
        self.assertEqual(error_of(keeper.redo), ("NoEdition",))
        self.assertEqual(entries_of(keeper.edition), ("main", "other", "new"))
        keeper.undo()
        keeper.undo()
        self.assertEqual(keeper.edition, program_of(TEXT))
        self.assertEqual(error_of(keeper.undo), ("NoEdition",))

    def test_what_is_kept_goes_back_too(self):
        keeper = self.keeper
        keeper.edit((("put", one_of("function on ( x : 2 ) : 2 { }")),))
        keeper.undo()
        # The print is that of the elder edition again.
        keeper.edit(self.FIRST)
        self.assertEqual(keeper.worked, ())
        keeper.undo()
        keeper.edit((("put", one_of("function on ( x : 2 ) : 2 { raise new ; }")),))
        self.assertEqual(keeper.worked, ("main",))

    def test_an_empty_batch_is_one(self):
        self.keeper.edit(())
        self.assertEqual(self.keeper.worked, ())
        self.keeper.undo()
        self.assertEqual(error_of(self.keeper.undo), ("NoEdition",))


class Errors(KeeperTest):
    def leaves(self, many):
        last = many - 2
        return one_of(f"entry function new ( x : 8 ) : 8 {{ var m : 8 ; var s : 8 ; let m = 128#8 ; "
                      f"if {last}#8 < x {{ let x = {last}#8 ; }} while m != 0#8 "
                      "{ if s + m <= x { let s = s + m ; } let m = m >> 1#1 ; } return s ; }")

    def looks(self, many, head="function off ( x : 2 ) : 2"):
        return one_of(head + " { " + "if 1#1 { } " * many + "}")

    def test_when_it_is_made(self):
        def error(*declarations, kind="ways", bounds=(32, 4, 4, 8)):
            return error_of(make_keeper, declarations, kind, bounds)

        wide = one_of("entry function wide8 ( x : 8 ) : 1 { }")
        many, goals = self.leaves(201), self.looks(11, "entry function goals ( ) : 1")
        self.assertIsNone(error(wide, self.leaves(200)))
        self.assertEqual(error(many), ("TooMany", "leaves"))
        self.assertEqual(error(goals, kind="pairs"), ("TooMany", "goals"))
        # In the order of the program; the goals are listed when all is worked out.
        narrow = (32, 4, 4, 7)
        self.assertEqual(error(wide, many, bounds=narrow), ("TooWide", "wide8"))
        self.assertEqual(error(many, wide, bounds=narrow), ("TooWide", "new"))
        self.assertEqual(error(goals, wide, kind="pairs", bounds=narrow), ("TooWide", "wide8"))
        self.assertEqual(error(goals, many, kind="pairs"), ("TooMany", "leaves"))
        self.assertEqual(error(goals, kind="pairs", bounds=(33, 4, 4, 8)), ("BadBounds",))
        self.assertEqual(error(many, kind="mutants", bounds=narrow), ("TooWide", "new"))
        self.assertIsNone(error(many, kind="mutants"))

    def test_batches_that_raise_change_nothing(self):
        program = program_of(TEXT)
        keeper = Keeper(program, "pairs", bounds=(32, 4, 4, 8))
        keeper.edit((("put", one_of("entry function late ( ) : 1 { }")),))
        keeper.edit((("drop", "late"),))
        keeper.edit((("name", "other", "another"),))
        keeper.undo()
        keeper.undo()
        kept = (keeper.edition, keeper.worked, keeper.suite("main"), keeper.printed("other"))
        for batch, error in (
                ((("drop", "none"),), ("Unknown", "none")),
                ((("name", "main", "off"),), ("Twice", "off")),
                ((("drop", "on"),), ("Unknown", "on")),
                ((("put", self.leaves(201)),), ("TooMany", "leaves")),
                # A function that no run meets makes the goals of a kept entry too many.
                ((("put", self.looks(11)),), ("TooMany", "goals")),
                ((("put", self.looks(11)), ("put", self.leaves(201))), ("TooMany", "leaves")),
                ((("put", self.looks(11)), ("drop", "none")), ("Unknown", "none"))):
            self.assertEqual(error_of(keeper.edit, batch), error)
            self.assertEqual((keeper.edition, keeper.worked, keeper.suite("main"), keeper.printed("other")), kept)
        # All editions are there still.
        self.assertEqual(error_of(keeper.redo), None)
        self.assertEqual(error_of(keeper.redo), None)
        self.assertEqual(entries_of(keeper.edition), ("main", "another"))
        self.assertEqual(error_of(keeper.redo), ("NoEdition",))
        for _ in range(3):
            keeper.undo()
        self.assertEqual(keeper.edition, program)
        self.assertEqual(error_of(keeper.undo), ("NoEdition",))

    def test_too_wide(self):
        keeper = Keeper(program_of(TEXT), bounds=(24, 4, 4, 2))
        for text in ("entry function new ( x : 3 ) : 1 { }", "entry function main ( x : 2 , y : 1 ) : 2 { }"):
            name = text.split()[2]
            self.assertEqual(error_of(keeper.edit, (("put", one_of(text)),)), ("TooWide", name))
        self.assertEqual(keeper.edition, program_of(TEXT))
        # A function that is too wide is worked out when it becomes an entry only.
        keeper.edit((("put", one_of("function new ( x : 3 ) : 1 { }")),))
        self.assertEqual(error_of(keeper.edit, (("put", one_of("entry function new ( x : 3 ) : 1 { }")),)),
                         ("TooWide", "new"))

    def test_goals_are_counted_for_entries_that_are_kept(self):
        keeper = Keeper(program_of(TEXT), "mutants")
        body = "let x = x ; " * 40
        batch = tuple(("put", one_of(f"function f{at} ( x : 2 ) : 2 {{ {body} }}")) for at in range(11))
        keeper.edit(batch)
        self.assertEqual(keeper.worked, ())
        calls = "".join(f"call f{at} ( x ) ; " for at in range(11))
        many = (("put", one_of("function off ( x : 2 ) : 2 { " + calls + "}")),)
        self.assertEqual(error_of(goals_of, edited(keeper.edition, many), "main", "mutants"), ("TooMany", "goals"))
        self.assertEqual(error_of(keeper.edit, many), ("TooMany", "goals"))

    def test_classes_are_counted_when_the_tests_are_asked_for(self):
        looks = "".join(f"if x == {at}#8 {{ }} " for at in range(16))
        keeper = Keeper(program_of("entry function main ( x : 8 ) : 1 { " + looks + "}"))
        self.assertEqual(error_of(keeper.tests, "main"), ("TooMany", "classes"))
        self.assertEqual(len(keeper.suite("main")), 32)
        keeper.edit((("put", one_of("entry function main ( x : 8 ) : 1 { }")),))
        self.assertEqual(keeper.tests("main"), ())

    def test_bounds(self):
        self.assertEqual(error_of(make_keeper, (), "ways", (24, 4, 4)), ("BadBounds",))
        self.assertEqual(error_of(make_keeper, program_of(TEXT), "ways", [24, 4, 4, 8]), ("BadBounds",))


class Attempts(KeeperTest):
    FIRST, SECOND, THIRD = Editions.FIRST, Editions.SECOND, Editions.THIRD
    BAD = (("drop", "none"),)

    def setUp(self):
        self.keeper = Keeper(program_of(TEXT))

    def test_without_an_error(self):
        keeper = self.keeper
        with keeper.attempt() as held:
            self.assertIs(held, keeper)
            held.edit(self.FIRST)
            held.edit(self.THIRD)
        self.assertEqual(keeper.worked, ("new",))
        self.assertEqual(entries_of(keeper.edition), ("main", "other", "new"))
        keeper.undo()
        keeper.undo()
        self.assertEqual(keeper.edition, program_of(TEXT))

    def test_with_an_error(self):
        keeper = self.keeper
        keeper.edit(self.THIRD)
        keeper.edit(self.FIRST)
        keeper.undo()
        kept = (keeper.edition, keeper.worked, keeper.suite("main"))
        for error in (ValueError, KeyError, NoEdition):
            with self.assertRaises(error):
                with keeper.attempt():
                    keeper.undo()
                    keeper.edit(self.SECOND)
                    raise error()
            self.assertEqual((keeper.edition, keeper.worked, keeper.suite("main")), kept)
        with self.assertRaises(Unknown):
            with keeper.attempt() as held:
                held.edit(self.SECOND)
                held.edit(self.BAD)
        self.assertEqual((keeper.edition, keeper.worked, keeper.suite("main")), kept)
        # What could be redone can be redone still.
        keeper.redo()
        self.assertEqual(declared(keeper.edition, "off"), self.FIRST[0][1])
        keeper.undo()
        keeper.undo()
        self.assertEqual(keeper.edition, program_of(TEXT))

    def test_what_worked_tells(self):
        keeper = self.keeper
        try:
            with keeper.attempt():
                keeper.edit(self.THIRD)
                raise ValueError()
        except ValueError:
            pass
        self.assertEqual(keeper.worked, ("main", "other"))
        try:
            with keeper.attempt():
                keeper.edit(self.BAD)
        except MakerError:
            pass
        self.assertEqual(keeper.worked, ("main", "other"))

    def test_in_one_another(self):
        keeper = self.keeper
        with keeper.attempt():
            keeper.edit(self.FIRST)
            inner = keeper.edition
            with self.assertRaises(ValueError):
                with keeper.attempt():
                    keeper.edit(self.SECOND)
                    with keeper.attempt():
                        keeper.edit(self.THIRD)
                    self.assertEqual(entries_of(keeper.edition), ("main", "new"))
                    raise ValueError()
            self.assertEqual((keeper.edition, keeper.worked), (inner, ()))
            keeper.edit(self.THIRD)
        self.assertEqual(entries_of(keeper.edition), ("main", "other", "new"))
        with self.assertRaises(ValueError):
            with keeper.attempt():
                with keeper.attempt():
                    keeper.edit(self.SECOND)
                self.assertEqual(entries_of(keeper.edition), ("main", "new"))
                raise ValueError()
        self.assertEqual(entries_of(keeper.edition), ("main", "other", "new"))

    def test_attempted(self):
        keeper = self.keeper
        new = (("put", one_of("entry function new ( ) : 1 { return 1#1 ; }")),)
        self.assertEqual(keeper.attempted(self.THIRD, new, self.FIRST), ("new",))
        self.assertEqual(keeper.worked, ())
        on = (("put", one_of("function on ( x : 2 ) : 2 { }")),)
        another = (("put", one_of("entry function a ( ) : 1 { }")),)
        self.assertEqual(keeper.attempted(on, another), ("a", "main"))
        self.assertEqual(keeper.worked, ("a",))
        self.assertEqual(keeper.attempted(), ())
        self.assertEqual(keeper.worked, ("a",))
        for _ in range(5):
            keeper.undo()
        self.assertEqual(keeper.edition, program_of(TEXT))
        self.assertEqual(error_of(keeper.undo), ("NoEdition",))

    def test_attempted_with_an_error(self):
        keeper = self.keeper
        keeper.edit(self.FIRST)
        keeper.undo()
        self.assertEqual(error_of(keeper.attempted, self.SECOND, self.BAD, self.THIRD), ("Unknown", "none"))
        self.assertEqual((keeper.edition, keeper.worked), (program_of(TEXT), ()))
        keeper.redo()
        self.assertEqual(error_of(keeper.redo), ("NoEdition",))

    def test_drawn_ones(self):
        for seed in range(30):
            dice = random.Random(seed)
            program = with_entries(dice, rich_program(seed))
            try:
                keeper, twin = Keeper(program, bounds=(12, 2, 2, 6)), Keeper(program, bounds=(12, 2, 2, 6))
            except TooMany:
                continue
            editing = Editing(dice)
            batches = [editing.batch(program) for _ in range(3)]
            found, error = set(), None
            for batch in batches:
                error = error or error_of(twin.edit, batch)
                found |= set() if error else set(twin.worked)
            if error:
                self.assertEqual(error_of(keeper.attempted, *batches), error)
                self.assertEqual(keeper.edition, program)
                self.assertEqual(error_of(keeper.undo), ("NoEdition",))
            else:
                self.assertEqual(keeper.attempted(*batches), tuple(sorted(found)))
                self.assertEqual((keeper.edition, keeper.worked), (twin.edition, twin.worked))

    def test_what_is_touched_and_met_is_worked_out(self):
        for seed in range(60):
            dice = random.Random(seed)
            program = with_entries(dice, rich_program(seed))
            keeper = Keeper(program, "ends", bounds=(12, 2, 2, 6))
            batch = Editing(dice).batch(program)
            if error_of(edited, program, batch):
                continue
            names = touched(program, batch)
            met = {entry: {name for name, _ in keeper.printed(entry)} for entry in entries_of(program)}
            keeper.edit(batch)
            told = [entry for entry in entries_of(keeper.edition) if entry not in met or met[entry] & set(names)]
            self.assertEqual(keeper.worked, tuple(told))


if __name__ == "__main__":
    unittest.main()
