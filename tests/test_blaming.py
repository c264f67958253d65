"""What is shown at inputs that need not fit, and which batches break a test, or mend it."""

import random
import unittest
from itertools import combinations

from drawing import drawn_units
from editing import Editing, is_entry, plainly_done
from helping import error_of, program_of
from metorshut.blaming import shown_at, to_blame, to_mend
from metorshut.bounds import BOUNDS
from metorshut.check import check
from metorshut.edits import edited, touched
from metorshut.inputs import inputs_of
from metorshut.programs import declared
from metorshut.reading import read_program
from metorshut.treeruns import run_tree
from plainrun import plain_report

ASK = "external ask ( a : 2 ) : 2 needs a != 0#2 gives result != a ; "


def put(text):
    return ("put", read_program(text)[0])


def plainly_shown(program, entry, tried, bounds):
    """What is shown: the most answers that fit are run with."""
    args, answers = tried
    for many in reversed(range(len(answers) + 1)):
        report = plain_report(program, entry, args, answers[:many], bounds)
        if isinstance(report, tuple):
            asked, outcome = report[2:4]
            if outcome[0] == "asks" and many < len(answers):
                outcome = ("refuses", many)
            return asked, outcome


class PlainBlame:
    """Lots to blame and lots that mend, by a search over all lots."""

    def __init__(self, program, batches, entry, tried, bounds):
        self.program, self.batches, self.entry, self.tried, self.bounds = program, batches, entry, tried, bounds
        self.numbers = range(len(batches))
        self.lots = [lot for size in range(len(batches) + 1) for lot in combinations(self.numbers, size)]
        self.known = {lot: self.verdict(lot) for lot in self.lots}

    def verdict(self, lot):
        """Whether the lot breaks the test; None if it is not let."""
        program = self.program
        for number in lot:
            program = plainly_done(program, self.batches[number])
            if program and isinstance(program[0], str):
                return None
        if error_of(check, program):
            return None
        one, two = declared(self.program, self.entry), declared(program, self.entry)
        if not is_entry(program, self.entry) or [kind for _, kind in one[2]] != [kind for _, kind in two[2]]:
            return True
        shown = [plainly_shown(part, self.entry, self.tried, self.bounds) for part in (self.program, program)]
        return shown[0] != shown[1]

    def least(self, holds):
        return tuple(lot for lot in self.lots if holds(lot) and not any(
            holds(other) for size in range(len(lot)) for other in combinations(lot, size)))

    def blamed(self):
        return self.least(lambda lot: self.known[lot] is True)

    def mending(self):
        return self.least(lambda lot: self.known[tuple(at for at in self.numbers if at not in lot)] is False)


class Shown(unittest.TestCase):
    PROGRAM = program_of(ASK + "entry function main ( x : 2 ) : 2 { var y : 2 ; call x = ask ( x ) ; "
                         "call y = ask ( x ) ; return x + y ; }")

    def told(self, args, answers, asked, outcome, bounds=BOUNDS):
        asked = tuple(("ask", (word,)) for word in asked)
        self.assertEqual(shown_at(self.PROGRAM, "main", (args, answers), bounds), (asked, outcome))

    def test_each_number(self):
        self.told((1,), (2, 3), (1, 2), ("returns", 1))
        self.told((1,), (1, 3), (), ("refuses", 0))
        self.told((1,), (2, 2), (1,), ("refuses", 1))
        self.told((1,), (9,), (), ("refuses", 0))
        self.told((1,), (2, -1), (1,), ("refuses", 1))
        self.told((1,), (1, 1, 1), (), ("refuses", 0))

    def test_answers_left_over(self):
        self.told((1,), (2, 3, 3), (1, 2), ("returns", 1))
        self.told((0,), (1, 2), (), ("raises", "duty"))
        self.told((1,), (0, 7), (1,), ("raises", "duty"))
        self.told((1,), (2, 3), (1,), ("cut", "bits"), (24, 4, 4, 5))

    def test_answers_that_lack(self):
        self.told((1,), (), (), ("asks", "ask", (1,)))
        self.told((1,), (3,), (1,), ("asks", "ask", (3,)))

    def test_steady_answers(self):
        text = ASK.replace("2 needs", "2 steady needs")
        program = program_of(text + "entry function main ( ) : 2 { call ask ( 1#2 ) ; call ask ( 1#2 ) ; }")
        asked = (("ask", (1,)),)
        self.assertEqual(shown_at(program, "main", ((), (2, 3))), (asked, ("refuses", 1)))
        self.assertEqual(shown_at(program, "main", ((), (2, 2))), (asked * 2, ("returns", 0)))

    def test_errors(self):
        for args in ((), (4,), (1, 1), (-1,)):
            self.assertEqual(error_of(shown_at, self.PROGRAM, "main", (args, ())), ("BadInput", "args"))
            self.assertEqual(error_of(shown_at, self.PROGRAM, "main", (args, ()), (24, 4, 4, 1)), ("TooWide", "main"))
            self.assertEqual(error_of(shown_at, self.PROGRAM, "main", (args, ()), (24, 4, 4)), ("BadBounds",))

    def test_drawn_ones(self):
        refused = 0
        for seed, program, unit, bounds in drawn_units(0, 120, (4, 5)):
            for args, answers in list(inputs_of(program, unit, bounds))[:12]:
                report = run_tree(program, unit, args, answers, bounds)
                self.assertEqual(shown_at(program, unit, (args, answers), bounds), report[2:4])
                for other in ((*answers[:-1], 0), (*answers, 1), answers[:-1], (*answers[:-1], 3, 3)):
                    told = plainly_shown(program, unit, (args, other), bounds)
                    self.assertEqual(shown_at(program, unit, (args, other), bounds), told)
                    refused += told[1][0] == "refuses"
        self.assertGreater(refused, 60)


class Drawn(unittest.TestCase):
    def test_against_a_search_over_all_lots(self):
        blamed = mended = 0
        for seed, program, unit, bounds in drawn_units(0, 330, (4, 5)):
            if not is_entry(program, unit):
                continue
            dice = random.Random(seed)
            editing = Editing(dice)
            batches = tuple(editing.batch(program) for _ in range(dice.choice((1, 2, 3, 4))))
            args, answers = dice.choice(list(inputs_of(program, unit, bounds))[:30])
            tried = (args, answers[:dice.choice((0, 1, 2, 9))])
            plain = PlainBlame(program, batches, unit, tried, bounds)
            told = plain.blamed(), plain.mending()
            given = (program, batches, unit, tried, bounds)
            self.assertEqual((to_blame(*given), to_mend(*given)), told, (seed, batches))
            blamed += len(told[0]) > 0
            mended += told[1] not in ((), ((),))
            # What the elder run does not meet is not to blame alone.
            met = run_tree(program, unit, *tried, bounds)[4]
            for number, batch in enumerate(batches):
                if not error_of(edited, program, batch) and not set(met) & set(touched(program, batch)):
                    self.assertNotIn((number,), told[0])
        self.assertGreater(min(blamed, mended), 40)


class Lots(unittest.TestCase):
    TEXT = "function f ( ) : 2 { } function g ( ) : 2 { } entry function main ( x : 2 ) : 2 { var y : 2 ; var z : 2 ; " \
           "call y = f ( ) ; call z = g ( ) ; return y ^ z ; }"
    ONE_F, TWO_F = put("function f ( ) : 2 { return 1#2 ; }"), put("function f ( ) : 2 { return 2#2 ; }")
    ONE_G, NO_G = put("function g ( ) : 2 { return 1#2 ; }"), put("function g ( ) : 2 { return 0#2 ; }")

    def told(self, batches, blamed, mending, tried=((1,), ()), text=TEXT, entry="main"):
        program = program_of(text)
        self.assertEqual(to_blame(program, batches, entry, tried), blamed)
        self.assertEqual(to_mend(program, batches, entry, tried), mending)
        plain = PlainBlame(program, batches, entry, tried, BOUNDS)
        self.assertEqual((plain.blamed(), plain.mending()), (blamed, mending))

    def test_the_lot_without_numbers(self):
        # Nothing breaks the test, so nothing need be left out.
        self.told((), (), ((),))
        self.told(((self.NO_G,),), (), ((),))
        self.told(((self.NO_G,), ()), (), ((),))

    def test_one_batch(self):
        self.told(((self.ONE_F,),), ((0,),), ((0,),))
        self.told(((self.NO_G,), (self.ONE_F,), ()), ((1,),), ((1,),))

    def test_batches_that_take_back_what_others_do(self):
        # 1 ^ 1 is 0 again; each one alone breaks the test.
        self.told(((self.ONE_F,), (self.ONE_G,)), ((0,), (1,)), ((),))
        self.told(((self.ONE_F,), (self.ONE_G,), (self.TWO_F,)), ((0,), (1,), (2,)), ((2,),))
        self.told(((self.ONE_G,), (self.NO_G,)), ((0,),), ((),))

    def test_two_together(self):
        text = self.TEXT.replace("y ^ z", "y & z")
        self.told(((self.ONE_F,), (self.ONE_G,)), ((0, 1),), ((0,), (1,)), text=text)
        self.told(((self.ONE_F,), (self.ONE_G,), (self.TWO_F,)), ((0, 1),), ((),), text=text)

    def test_the_order_of_lots(self):
        # Shorter lots come first: 2 alone, and 0 and 1 together.
        text = self.TEXT.replace("y ^ z", "y & z")
        alone = (put("entry function main ( x : 2 ) : 2 { raise ouch ; }"),)
        self.told(((self.ONE_F,), (self.ONE_G,), alone), ((2,), (0, 1)), ((0, 2), (1, 2)), text=text)

    def test_not_let_alone_but_together(self):
        first = (put("entry function main ( x : 2 ) : 2 { call new ( ) ; return 3#2 ; }"),)
        second = (put("function new ( ) : 2 { }"),)
        self.told((first, second), ((0, 1),), ((0,),))
        self.told((second, first), ((0, 1),), ((1,),))
        drop = (("drop", "g"),)
        rest = (put("entry function main ( x : 2 ) : 2 { call f ( ) ; }"),)
        self.told((drop, rest), (), ((),))
        self.told((drop,), (), ((0,),))

    def test_edits_of_other_batches(self):
        # The second batch is let behind the first one only.
        self.told(((("name", "f", "new"),), (put("function new ( ) : 2 { return 1#2 ; }"),)), ((0, 1),), ((0,), (1,)))
        self.told(((("drop", "none"),), (self.ONE_F,)), ((1,),), ((0, 1),))

    def test_an_entry_that_is_gone(self):
        for batch in ((("drop", "main"),), (("name", "main", "late"),),
                      (put("function main ( x : 2 ) : 2 { }"),), (put("record main { }"),),
                      (put("entry function main ( ) : 2 { }"),), (put("entry function main ( x : 1 ) : 2 { }"),),
                      (put("entry function main ( x : 2 , y : 1 ) : 2 { }"),),
                      (put("external main ( x : 2 ) : 2 needs 1#1 gives 1#1 ;"),)):
            self.told((batch, ()), ((0,),), ((0,),))

    def test_other_names_and_widths_that_do_not_matter(self):
        self.told(((put("entry function main ( other : 2 ) : 8 { }"),),), (), ((),))

    def test_answers(self):
        text = ASK + "entry function main ( x : 2 ) : 2 { call x = ask ( x ) ; return x ; }"
        less, same = put(ASK.replace("result != a", "result < a")), put(ASK.replace("result != a", "result <= a"))
        later = put("entry function main ( x : 2 ) : 2 { call x = ask ( x ) ; call x = ask ( 1#2 ) ; return x ; }")
        flat = put("entry function main ( x : 2 ) : 2 { return 3#2 ; }")
        self.told(((less,), (same,)), ((0,), (1,)), ((0, 1),), ((1,), (3,)), text)
        self.told(((less,), (same,)), (), ((),), ((2,), (0,)), text)
        self.told(((later,), (flat,)), ((0,), (1,)), ((0, 1),), ((2,), (3,)), text)
        # An input need not be full.
        self.told(((later,), (flat,)), ((1,),), ((1,),), ((2,), ()), text)

    def test_a_unit_that_is_no_entry(self):
        program = program_of(self.TEXT)
        self.assertEqual(to_blame(program, ((self.ONE_F,), (("drop", "g"),)), "f", ((), ())), ((0,),))
        self.assertEqual(to_mend(program, ((), ()), "f", ((), ())), ((),))
        self.assertEqual(to_blame(program, ((put("record box { }"), put("function f ( ) : box { }"),
                                             put("entry function main ( x : 2 ) : 2 { }")),), "f", ((), ())), ((0,),))

    def test_six_batches(self):
        batches = ((self.ONE_F,), (), (self.ONE_G,), (), (), ())
        self.told(batches, ((0,), (2,)), ((),))

    def test_errors(self):
        program = program_of(ASK + "entry function main ( x : 2 ) : 2 { call x = ask ( x ) ; return x ; }")

        def error(batches, tried, bounds=BOUNDS):
            found = [error_of(action, program, batches, "main", tried, bounds) for action in (to_blame, to_mend)]
            self.assertEqual(found[0], found[1])
            return found[0]

        good = ((1,), (2,))
        self.assertIsNone(error(((),) * 6, good))
        self.assertEqual(error(((),) * 7, good), ("TooMany", "batches"))
        self.assertEqual(error(((),) * 7, ((1,), (1,))), ("BadInput", "answers"))
        self.assertEqual(error(((),) * 7, ((4,), (1,))), ("BadInput", "args"))
        self.assertEqual(error(((),) * 7, ((1,), (2, 2))), ("BadInput", "answers"))
        self.assertEqual(error(((),) * 7, ((4,), (1,)), (24, 4, 4, 1)), ("TooWide", "main"))
        self.assertEqual(error(((),) * 7, ((4,), (1,)), (24, 4, 4, 13)), ("BadBounds",))
        self.assertIsNone(error((), ((1,), ())))


if __name__ == "__main__":
    unittest.main()
