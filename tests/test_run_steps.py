"""Runs that are made step by step."""

import random
import unittest

from helping import error_of
from making import made_program
from metorshut.bounds import BOUNDS
from metorshut.reading import read_program
from metorshut.runs import Machine, Run
from plainrun import PlainRun

TEXT = """
record box { v : 8 ; }
external ask ( a : 2 ) : 2 needs a != 3#2 gives result != a ;
external same ( ) : 1 steady needs 1#1 gives 1#1 ;
function deep ( a : 2 ) : 2 { if a == 1#2 { raise ouch ; } call a = ask ( a ) ; return a ; }
function mid ( a : 2 ) : 2 { call a = deep ( a ) ; return a + 1#2 ; }
entry function main ( a : 2 ) : 2 {
    var b : box ; var s : 1 ;
    make b = box ;
    try { call a = mid ( a ) ; } catch ouch { call s = same ( ) ; call s = same ( ) ; return wide ( s , 2 ) ; }
    call a = ask ( a ) ;
    return a ;
}
"""
MACHINE = Machine(read_program(TEXT))


def started(*args, bounds=BOUNDS):
    return MACHINE.start("main", args, bounds)


def stops(text, *args, bounds=BOUNDS):
    """The events of the only entry, called main, up to where it first waits or ends."""
    return list(Machine(read_program(text)).start("main", args, bounds).events())


BEGIN = [("make", "box"), ("call", "mid"), ("call", "deep")]


class Events(unittest.TestCase):
    def test_in_order(self):
        run = started(0)
        self.assertEqual(
            list(run.events()), [*BEGIN, ("deep", 0, 0), ("ask", 0, 1), ("ask", "ask", (0,))]
        )
        run.answer(2)
        self.assertEqual(list(run.events()), [("back", "deep"), ("back", "mid"), ("ask", 0, 0), ("raises", "duty")])

    def test_behind_an_answer(self):
        run = started(0)
        run.go()
        run.answer(1)
        self.assertEqual(
            list(run.events()), [("back", "deep"), ("back", "mid"), ("ask", 0, 1), ("ask", "ask", (2,))]
        )
        run.answer(0)
        self.assertEqual(list(run.events()), [("returns", 0)])

    def test_a_name_that_leaves_calls(self):
        self.assertEqual(
            list(started(1).events()),
            [*BEGIN, ("deep", 0, 1), ("back", "deep"), ("back", "mid"), ("same", 0, 1), ("ask", "same", ())],
        )

    def test_a_way_that_raises_comes_first(self):
        self.assertEqual(
            list(started(3).events()),
            [*BEGIN, ("deep", 0, 0), ("ask", 0, 0), ("back", "deep"), ("back", "mid"), ("raises", "duty")],
        )
        text = """function g ( a : 2 ) : 2 { assert a == 1#2 ; }
            entry function main ( a : 2 ) : 2 { call g ( a ) ; return a ; }"""
        self.assertEqual(stops(text, 1), [("call", "g"), ("g", 0, 1), ("back", "g"), ("returns", 1)])
        self.assertEqual(stops(text, 2), [("call", "g"), ("g", 0, 0), ("back", "g"), ("raises", "claim")])

    def test_the_entry_makes_none(self):
        self.assertEqual(stops("entry function main ( ) : 1 { }"), [("returns", 0)])
        self.assertEqual(stops("entry function main ( ) : 1 { raise x ; }"), [("raises", "x")])

    def test_an_entry_that_is_called_in_the_run(self):
        text = "entry function main ( a : 1 ) : 1 { if a { call a = main ( ~ a ) ; } return ~ a ; }"
        self.assertEqual(
            stops(text, 1), [("main", 0, 1), ("call", "main"), ("main", 0, 0), ("back", "main"), ("returns", 0)]
        )

    def test_loops(self):
        text = "entry function main ( ) : 1 { var s : 1 ; while s { } while ~ s { let s = 1#1 ; } while s { } }"
        self.assertEqual(
            stops(text), [("main", 0, 0), ("main", 1, 1), ("main", 1, 0), ("main", 2, 1), ("endless",)]
        )

    def test_what_is_cut(self):
        text = """record box { } external ask ( ) : 1 needs 1#1 gives 1#1 ; function g ( ) : 1 { %s }
            entry function main ( ) : 1 { call g ( ) ; }"""
        self.assertEqual(stops(text % "", bounds=(9, 1, 1, 0)), [("cut", "depth")])
        self.assertEqual(
            stops(text % "var b : box ; make b = box ;", bounds=(9, 2, 0, 0)), [("call", "g"), ("cut", "objects")]
        )
        self.assertEqual(
            stops(text % "assert 1#1 ; assert 1#1 ;", bounds=(2, 2, 0, 0)),
            [("call", "g"), ("g", 0, 1), ("cut", "steps")],
        )
        self.assertEqual(
            stops(text % "call ask ( ) ;", bounds=(9, 2, 0, 0)), [("call", "g"), ("ask", 0, 1), ("cut", "bits")]
        )
        self.assertEqual(
            stops(text % "call ask ( ) ;", bounds=(2, 2, 0, 1)), [("call", "g"), ("ask", 0, 1), ("cut", "steps")]
        )

    def test_a_run_that_waits_or_has_ended_goes_nowhere(self):
        run = started(0)
        self.assertEqual(run.go(), ("asks", "ask", (0,)))
        self.assertEqual(list(run.events()), [])
        self.assertEqual(run.go(), ("asks", "ask", (0,)))
        run.answer(2)
        self.assertEqual(run.go(), ("raises", "duty"))
        self.assertEqual(list(run.events()), [])
        self.assertEqual(run.go(), ("raises", "duty"))

    def test_events_that_are_not_gone_through(self):
        for many in range(1, 6):
            run = started(1)
            first = []
            for event in run.events():
                first.append(event)
                if len(first) == many:
                    break
            self.assertEqual(first + list(run.events()), list(started(1).events()))
            self.assertEqual(run.go(), ("asks", "same", ()))
        run = started(1)
        for _ in run.events():
            break
        self.assertEqual(run.go(), ("asks", "same", ()))
        self.assertEqual(run.report, MACHINE.run("main", (1,), ()))
        self.assertEqual(list(run.events()), [])

    def test_a_generator_does_nothing_until_it_is_asked(self):
        run = started(0)
        events = run.events()
        self.assertIsNone(run.outcome)
        self.assertEqual(run.report[1], ())
        run.go()
        self.assertEqual(list(events), [])

    def test_an_event_when_it_happens(self):
        run = started(0)
        events = run.events()
        self.assertEqual(next(events), ("make", "box"))
        self.assertEqual(run.report[1:3], ((), ()))
        self.assertEqual([next(events) for _ in range(3)][-1], ("deep", 0, 0))
        self.assertEqual(run.report[1], (("deep", 0, 0),))


class Answering(unittest.TestCase):
    def test_not_asked(self):
        run = started(0)
        self.assertEqual(error_of(run.answer, 1), ("NotAsked",))
        run.go()
        run.answer(2)
        self.assertEqual(error_of(run.answer, 2), ("NotAsked",))
        self.assertEqual(error_of(run.answer, 99), ("NotAsked",))
        run.go()
        self.assertEqual(error_of(run.answer, 2), ("NotAsked",))

    def test_it_returns_nothing(self):
        run = started(0)
        run.go()
        self.assertIsNone(run.answer(2))
        self.assertIsNone(run.outcome)

    def test_an_answer_that_is_not_let(self):
        run = started(0)
        run.go()
        before = run.report
        for word in (0, 4, -1, 99, None, True, "1"):
            self.assertEqual(error_of(run.answer, word), ("BadInput", "answers"), word)
            self.assertEqual(run.report, before)
            self.assertEqual(run.outcome, ("asks", "ask", (0,)))
        run.answer(1)
        self.assertEqual(run.go(), ("asks", "ask", (2,)))

    def test_steady_ones(self):
        run = started(1)
        run.go()
        run.answer(1)
        self.assertEqual(run.go(), ("asks", "same", ()))
        self.assertEqual(error_of(run.answer, 0), ("BadInput", "answers"))
        run.answer(1)
        self.assertEqual(run.go(), ("returns", 1))

    def test_without_a_target(self):
        text = "external ask ( ) : 1 needs 1#1 gives 1#1 ; entry function main ( ) : 1 { call ask ( ) ; return 1#1 ; }"
        run = Machine(read_program(text)).start("main", ())
        run.go()
        run.answer(0)
        self.assertEqual(run.go(), ("returns", 1))


class Starting(unittest.TestCase):
    def test_errors_in_their_order(self):
        self.assertEqual(error_of(MACHINE.start, "main", (9,), (0, 1, 0, 0)), ("BadBounds",))
        self.assertEqual(error_of(MACHINE.start, "main", (9,), None), ("BadBounds",))
        self.assertEqual(error_of(MACHINE.start, "main", (9,), (1, 1, 0, 1)), ("TooWide", "main"))
        for args in ((9,), (), (1, 1), (-1,), (4,), (True,), (None,)):
            self.assertEqual(error_of(MACHINE.start, "main", args, (1, 1, 0, 2)), ("BadInput", "args"))
        self.assertIsInstance(MACHINE.start("main", (3,), (1, 1, 0, 2)), Run)

    def test_ahead_of_the_first_step(self):
        run = started(0)
        self.assertIsNone(run.outcome)
        self.assertEqual(run.report, ("run", (), (), None, ("main",)))
        self.assertEqual(run.report, ("run", (), (), None, ("main",)))

    def test_where_it_waits_and_behind_that(self):
        run = started(0)
        run.go()
        ways = (("deep", 0, 0), ("ask", 0, 1))
        met = ("ask", "box", "deep", "main", "mid")
        self.assertEqual(run.outcome, ("asks", "ask", (0,)))
        self.assertEqual(run.report, ("run", ways, (), ("asks", "ask", (0,)), met))
        run.answer(1)
        self.assertEqual(run.report, ("run", ways, (("ask", (0,)),), None, met))
        run.go()
        self.assertEqual(run.report, MACHINE.run("main", (0,), (1,)))
        run.answer(3)
        self.assertEqual(run.go(), run.outcome)
        self.assertEqual(run.report, MACHINE.run("main", (0,), (1, 3)))

    def test_runs_of_one_machine(self):
        one, two = started(0), started(1)
        one.go()
        self.assertEqual(two.report, ("run", (), (), None, ("main",)))
        two.go()
        self.assertEqual(one.outcome, ("asks", "ask", (0,)))
        self.assertEqual(two.outcome, ("asks", "same", ()))

    def test_a_unit(self):
        run = MACHINE.start("deep", (0,))
        self.assertEqual(list(run.events()), [("deep", 0, 0), ("ask", 0, 1), ("ask", "ask", (0,))])


class Oops(Exception):
    pass


class Trials(unittest.TestCase):
    def test_held_is_the_run(self):
        run = started(0)
        with run.trial() as held:
            self.assertIs(held, run)

    def test_it_goes_back(self):
        run = started(0)
        run.go()
        before = run.report
        for word, outcome in ((2, ("raises", "duty")), (1, ("asks", "ask", (2,)))):
            with run.trial() as held:
                held.answer(word)
                self.assertEqual(held.go(), outcome)
                self.assertNotEqual(run.report, before)
            self.assertEqual(run.report, before)
            self.assertEqual(run.outcome, ("asks", "ask", (0,)))
        run.answer(1)
        run.go()
        self.assertEqual(run.report, MACHINE.run("main", (0,), (1,)))

    def test_ahead_of_the_first_step(self):
        run = started(1)
        with run.trial() as held:
            events = list(held.events())
        self.assertIsNone(run.outcome)
        self.assertEqual(run.report, ("run", (), (), None, ("main",)))
        self.assertEqual(list(run.events()), events)

    def test_an_error_that_leaves_the_block(self):
        run = started(0)
        run.go()
        before = run.report
        with self.assertRaises(Oops):
            with run.trial() as held:
                held.answer(1)
                held.go()
                raise Oops()
        self.assertEqual(run.report, before)

        def wrong():
            with run.trial() as held:
                held.answer(1)
                held.go()
                held.answer(2)

        self.assertEqual(error_of(wrong), ("BadInput", "answers"))
        self.assertEqual(run.report, before)
        run.answer(2)
        self.assertEqual(run.go(), ("raises", "duty"))

    def test_trials_in_trials(self):
        run = started(0)
        with run.trial():
            run.go()
            asked = run.report
            with run.trial():
                run.answer(1)
                run.go()
                deeper = run.report
                with run.trial():
                    run.answer(0)
                    self.assertEqual(run.go(), ("returns", 0))
                self.assertEqual(run.report, deeper)
                run.answer(3)
                self.assertEqual(run.go(), ("returns", 3))
            self.assertEqual(run.report, asked)
        self.assertEqual(run.report, ("run", (), (), None, ("main",)))

    def test_it_counts_from_where_the_block_is_entered(self):
        run = started(0)
        held = run.trial()
        run.go()
        before = run.report
        with held:
            run.answer(1)
            run.go()
        self.assertEqual(run.report, before)

    def test_everything_goes_back(self):
        text = """record box { v : 2 ; } external ask ( ) : 1 steady needs 1#1 gives 1#1 ;
            function turn ( b : box ) : 1 { var s : 1 ; let b . v = b . v + 1#2 ; call s = ask ( ) ; return s ; }
            entry function main ( ) : 8 { var b : box ; var a : 8 [ 2 ] ; var s : 1 ; make b = box ;
            while b . v < 3#2 { call s = turn ( b ) ; let a [ s ] = a [ s ] + 1#8 ; } return a [ 1#1 ] ; }"""
        program = read_program(text)
        machine, bounds = Machine(program), (32, 4, 4, 8)
        run = machine.start("main", (), bounds)
        run.go()
        for words in ((0, 0, 0), (1, 1, 1)):
            with run.trial():
                for word in words:
                    run.answer(word)
                    run.go()
                self.assertEqual(run.report, machine.run("main", (), words, bounds))
        run.answer(1)
        run.go()
        self.assertEqual(run.report, machine.run("main", (), (1,), bounds))


class Ahead(unittest.TestCase):
    def test_outcomes(self):
        run = started(0)
        self.assertEqual(run.ahead(), ("asks", "ask", (0,)))
        self.assertEqual(run.ahead(2), ("raises", "duty"))
        self.assertEqual(run.ahead(1), ("asks", "ask", (2,)))
        self.assertEqual(run.ahead(1, 3), ("returns", 3))
        self.assertEqual(run.report, ("run", (), (), None, ("main",)))
        run.go()
        self.assertEqual(run.ahead(), ("asks", "ask", (0,)))
        self.assertEqual(run.ahead(1, 0), ("returns", 0))
        self.assertEqual(run.outcome, ("asks", "ask", (0,)))
        run.answer(1)
        self.assertEqual(run.ahead(0), ("returns", 0))
        self.assertIsNone(run.outcome)

    def test_errors(self):
        run = started(0)
        for before in (run.report, MACHINE.run("main", (0,), ())):
            self.assertEqual(error_of(run.ahead, 0), ("BadInput", "answers"))
            self.assertEqual(error_of(run.ahead, 1, 2), ("BadInput", "answers"))
            self.assertEqual(error_of(run.ahead, 2, 2), ("NotAsked",))
            self.assertEqual(error_of(run.ahead, 1, 0, 9), ("NotAsked",))
            self.assertEqual(run.report, before)
            run.go()

    def test_a_run_that_has_ended(self):
        run = started(3)
        run.go()
        self.assertEqual(run.ahead(), ("raises", "duty"))
        self.assertEqual(error_of(run.ahead, 1), ("NotAsked",))

    def test_in_a_trial(self):
        run = started(0)
        with run.trial():
            run.go()
            run.answer(1)
            self.assertEqual(run.ahead(0), ("returns", 0))
        self.assertEqual(run.ahead(2), ("raises", "duty"))


class Twins(unittest.TestCase):
    def test_no_part_in_common(self):
        run = started(0)
        run.go()
        twin = run.twin()
        self.assertIsInstance(twin, Run)
        self.assertEqual(twin.report, run.report)
        twin.answer(2)
        self.assertEqual(twin.go(), ("raises", "duty"))
        self.assertEqual(run.outcome, ("asks", "ask", (0,)))
        run.answer(1)
        run.go()
        other = run.twin()
        run.answer(0)
        self.assertEqual(run.go(), ("returns", 0))
        self.assertEqual(other.outcome, ("asks", "ask", (2,)))
        other.answer(3)
        self.assertEqual(other.go(), ("returns", 3))
        self.assertEqual(twin.outcome, ("raises", "duty"))

    def test_ahead_of_the_first_step(self):
        run = started(1)
        twin = run.twin()
        self.assertEqual(list(run.events()), list(twin.events()))

    def test_between_two_events(self):
        text = """function g ( ) : 1 { assert 0#1 ; } function h ( ) : 1 { call g ( ) ; }
            entry function main ( ) : 1 { try { call h ( ) ; } catch claim { } while 1#1 { assert 1#1 ; } }"""
        machine = Machine(read_program(text))
        whole = list(machine.start("main", ()).events())
        self.assertEqual(whole[2:5], [("g", 0, 0), ("back", "g"), ("back", "h")])
        self.assertEqual(whole[-1], ("endless",))
        for many in range(1, len(whole) + 1):
            run = machine.start("main", ())
            for at, _ in enumerate(run.events()):
                if at + 1 == many:
                    break
            twin = run.twin()
            self.assertEqual(list(run.events()), whole[many:])
            self.assertEqual(list(twin.events()), whole[many:])
            self.assertEqual(twin.report, run.report)

    def test_steps_that_are_left(self):
        text = "external ask ( ) : 1 needs 1#1 gives 1#1 ; entry function main ( ) : 1 { %s }" % ("call ask ( ) ; " * 3)
        run = Machine(read_program(text)).start("main", (), (5, 1, 0, 8))
        run.go()
        self.assertEqual(run.ahead(0, 0), ("cut", "steps"))
        run.answer(0)
        run.go()
        twin = run.twin()
        twin.answer(0)
        self.assertEqual(twin.go(), ("cut", "steps"))

    def test_in_a_trial(self):
        run = started(0)
        with run.trial():
            run.go()
            run.answer(1)
            twin = run.twin()
        self.assertEqual(twin.go(), ("asks", "ask", (2,)))
        self.assertEqual(run.report, ("run", (), (), None, ("main",)))

    def test_objects_and_loops(self):
        text = """record box { v : 2 ; } external ask ( ) : 1 needs 1#1 gives 1#1 ;
            entry function main ( ) : 2 { var b : box ; var s : 1 ; make b = box ;
            while ~ s { call s = ask ( ) ; let b . v = b . v + 1#2 ; } return b . v ; }"""
        run = Machine(read_program(text)).start("main", ())
        run.go()
        twin = run.twin()
        twin.answer(0)
        twin.go()
        twin.answer(1)
        self.assertEqual(twin.go(), ("returns", 2))
        run.answer(1)
        self.assertEqual(run.go(), ("returns", 1))


class Random(unittest.TestCase):
    def test_events_trials_and_twins(self):
        for seed in range(400):
            program = made_program(seed)
            dice = random.Random(seed)
            machine = Machine(program)
            for unit in program:
                if unit[0] == "function" and unit[4] == 1:
                    args = tuple(dice.randrange(1 << width) for _, width in unit[2])
                    self.follow(program, machine, unit[1], args, dice)

    def follow(self, program, machine, unit, args, dice):
        """Try all answers wherever a run waits, then go on with one of them."""
        bounds = (dice.choice((4, 8, 16, 32)), dice.randrange(1, 9), 4, 12)
        run = machine.start(unit, args, bounds)
        events, answers = list(run.events()), ()
        while True:
            plain = PlainRun(program, unit, answers, bounds)
            self.assertEqual(run.report, plain.whole(args))
            self.assertEqual(events, plain.events)
            if run.outcome[0] != "asks":
                return
            words = [word for word in range(8) if error_of(run.ahead, word) is None]
            before = run.report
            for word in words:
                wanted = PlainRun(program, unit, (*answers, word), bounds).whole(args)
                self.assertEqual(run.ahead(word), wanted[3])
                with run.trial():
                    run.answer(word)
                    run.go()
                    self.assertEqual(run.report, wanted)
                twin = run.twin()
                twin.answer(word)
                twin.go()
                self.assertEqual((twin.report, run.report), (wanted, before))
            given = dice.choice(words)
            run.answer(given)
            answers = (*answers, given)
            events += list(run.events())


if __name__ == "__main__":
    unittest.main()
