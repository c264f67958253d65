"""The leaves of books, and inputs replayed in their trees."""

import random
import unittest

from drawing import drawn_books
from helping import program_of
from metorshut.books import book_of
from metorshut.bounds import BOUNDS
from metorshut.following import judge_book
from metorshut.inputs import inputs_of
from metorshut.leaves import leaves_of, replayed
from metorshut.runs import Machine
from plainbook import loose_book

ASK = "external ask ( a : 2 ) : 2 needs a != 0#2 gives result != a ; "


def ends_met(book, program, unit, bounds):
    """For each end of a tree, told by the sides on its way, the least full input that goes there, with its report."""
    machine = Machine(program)
    found = {}
    for args, answers in inputs_of(program, unit, bounds):
        report = machine.run(unit, args, answers, bounds)
        # Inputs with the same ways and the same loops left go to one end.
        key = (report[1], tuple(name for name, _ in report[2]), report[3][:1] if report[3][0] == "returns" else report[3])
        found.setdefault(key, ((args, answers), *report[1:4]))
    return sorted(found.values())


class Drawn(unittest.TestCase):
    def test_against_runs_of_all_inputs(self):
        many = 0
        for seed, program, unit, bounds, book in drawn_books(0, 260):
            leaves = leaves_of(program, book)
            self.assertEqual(sorted(leaves), ends_met(book, program, unit, bounds), (seed, unit))
            many += len(leaves) > 2
        self.assertGreater(many, 60)

    def test_the_order_of_the_tree(self):
        """Yes goes ahead of no: where the ways of two leaves part, the first one goes way 1, or is endless."""
        for seed, program, unit, bounds, book in drawn_books(0, 260):
            leaves = leaves_of(program, book)
            for one, other in zip(leaves, leaves[1:]):
                shared = 0
                while one[1][shared:shared + 1] == other[1][shared:shared + 1] and shared < len(one[1]):
                    shared += 1
                if shared < len(one[1]):
                    self.assertEqual((one[1][shared][2], other[1][shared][2]), (1, 0))
                else:
                    self.assertEqual(one[3], ("endless",))

    def test_replayed(self):
        lacking = 0
        for seed, program, unit, bounds, book in drawn_books(0, 200):
            machine = Machine(program)
            for args, answers in inputs_of(program, unit, bounds):
                for many in range(len(answers) + 1):
                    told = machine.run(unit, args, answers[:many], bounds)[1:4]
                    self.assertEqual(replayed(book, args, answers[:many]), told, (seed, unit))
                    lacking += told[2][0] == "asks"
        self.assertGreater(lacking, 100)

    def test_books_with_open_sides_to_which_no_input_goes(self):
        for seed, program, unit, bounds, book in drawn_books(0, 150):
            if len(repr(book)) > 5000:
                continue
            other = loose_book(random.Random(seed), program, unit, bounds)
            leaves = leaves_of(program, book)
            self.assertEqual(leaves_of(program, other), leaves, (seed, unit))
            for (args, answers), ways, asked, outcome in leaves:
                self.assertEqual(replayed(other, args, answers), (ways, asked, outcome))


class Leaves(unittest.TestCase):
    def test_a_plain_one(self):
        program = program_of("entry function main ( x : 2 , y : 2 ) : 2 { if 1#2 <= y { return x + y ; } raise ouch ; }")
        self.assertEqual(leaves_of(program, book_of(program, "main")), (
            (((0, 1), ()), (("main", 0, 1),), (), ("returns", 1)),
            (((0, 0), ()), (("main", 0, 0),), (), ("raises", "ouch")),
        ))

    def test_with_asks(self):
        program = program_of(ASK + "entry function main ( x : 2 ) : 2 { var y : 2 ; call y = ask ( x ) ; "
                             "if y < x { call y = ask ( y + 1#2 ) ; } return y ; }")
        leaves = leaves_of(program, book_of(program, "main"))
        self.assertEqual(leaves, (
            (((1,), (0, 0)), (("ask", 0, 1), ("main", 0, 1), ("ask", 0, 1)), (("ask", (1,)), ("ask", (1,))), ("returns", 0)),
            (((1,), (2,)), (("ask", 0, 1), ("main", 0, 0)), (("ask", (1,)),), ("returns", 2)),
            (((0,), ()), (("ask", 0, 0),), (), ("raises", "duty")),
        ))

    def test_the_least_input_by_the_answers(self):
        program = program_of(ASK + "entry function main ( ) : 2 { var y : 2 ; var z : 2 ; call y = ask ( 1#2 ) ; "
                             "call z = ask ( 2#2 ) ; if y < z { return z ; } return 0#2 ; }")
        leaves = leaves_of(program, book_of(program, "main"))
        self.assertEqual([leaf[0] for leaf in leaves], [((), (0, 1)), ((), (0, 0))])

    def test_steady_answers(self):
        outer = " ".join(f"external {name} ( a : 1 ) : 2 steady needs 1#1 gives 1#1 ;" for name in "ef")
        for name, last in (("e", (0, 1)), ("f", (0, 0))):
            program = program_of(outer + "entry function main ( p : 1 , q : 1 ) : 2 { var x : 2 ; var y : 2 ; "
                                 f"call x = e ( p ) ; call y = {name} ( q ) ; "
                                 "if x == y { return 1#2 ; } return 2#2 ; }")
            book = book_of(program, "main", (24, 4, 4, 6))
            self.assertEqual([leaf[0] for leaf in leaves_of(program, book)], [((0, 0), (0, 0)), (last, (0, 1))])

    def test_an_ask_between_two_of_another_external(self):
        program = program_of("external e ( ) : 1 steady needs 1#1 gives 1#1 ; external f ( ) : 1 steady needs 1#1 "
                             "gives 1#1 ; entry function main ( ) : 1 { var x : 1 ; var y : 1 ; call x = e ( ) ; "
                             "call y = f ( ) ; call y = e ( ) ; if x != y { raise ouch ; } if y { return 1#1 ; } }")
        first = [leaf[0] for leaf in leaves_of(program, book_of(program, "main"))]
        self.assertEqual(first, [((), (1, 0, 1)), ((), (0, 0, 0))])

    def test_one_leaf(self):
        program = program_of("entry function main ( ) : 2 { }")
        self.assertEqual(leaves_of(program, book_of(program, "main")), ((((), ()), (), (), ("returns", 0)),))

    def test_loops_and_cuts(self):
        program = program_of("entry function main ( x : 1 , y : 1 ) : 1 { while x != 1#1 { let x = x + y ; } }")
        book = book_of(program, "main", (1, 1, 0, 2))
        way, out = ("main", 0, 1), ("main", 0, 0)
        self.assertEqual(leaves_of(program, book), (
            (((0, 0), ()), (way,), (), ("endless",)),
            (((0, 1), ()), (way,), (), ("cut", "steps")),
            (((1, 0), ()), (out,), (), ("returns", 0)),
        ))
        self.assertEqual(replayed(book, (0, 0), ()), ((way,), (), ("endless",)))
        self.assertEqual(replayed(book, (0, 1), ()), ((way,), (), ("cut", "steps")))

    def test_answers_that_lack(self):
        program = program_of(ASK + "entry function main ( x : 2 ) : 2 { call x = ask ( x ) ; call x = ask ( x ) ; }")
        book = book_of(program, "main")
        ask = ("ask", 0, 1)
        self.assertEqual(replayed(book, (2,), ()), ((ask,), (), ("asks", "ask", (2,))))
        self.assertEqual(replayed(book, (2,), (3,)), ((ask, ask), (("ask", (2,)),), ("asks", "ask", (3,))))
        self.assertEqual(replayed(book, (2,), (3, 1)), ((ask, ask), (("ask", (2,)), ("ask", (3,))), ("returns", 0)))

    def test_many_bits(self):
        text = ("external e ( ) : 3 needs 1#1 gives result != 1#3 ; entry function main ( x : 6 ) : 6 { var y : 3 ; "
                "var z : 3 ; call y = e ( ) ; call z = e ( ) ; if wide ( y , 6 ) + wide ( z , 6 ) == x { return x ; } "
                "if x == 63#6 { if y == 7#3 { if z == 6#3 { return 1#6 ; } } } raise ouch ; }")
        program = program_of(text)
        bounds = (32, 4, 4, 12)
        book = book_of(program, "main", bounds)
        self.assertTrue(judge_book(program, "main", bounds, book))
        first = [leaf[0] for leaf in leaves_of(program, book)]
        self.assertEqual(first[:2], [((0,), (0, 0)), ((63,), (7, 6))])
        self.assertEqual(first[-1], ((0,), (0, 2)))

    def test_the_default_book(self):
        program = program_of("entry function main ( x : 8 ) : 8 { if x * x == 49#8 { return x ; } return 0#8 ; }")
        book = book_of(program, "main", BOUNDS)
        self.assertEqual([leaf[0] for leaf in leaves_of(program, book)], [((7,), ()), ((0,), ())])


if __name__ == "__main__":
    unittest.main()
