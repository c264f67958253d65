"""Judging books."""

import random
import unittest

from drawing import drawn_books, drawn_units, nodes_of
from helping import error_of, program_of
from metorshut.books import book_of
from metorshut.bounds import BOUNDS
from metorshut.following import judge_book
from plainbook import loose_book, right_book
from spoiling import part_at, places_in, spoilt, with_part

ASK = "external ask ( a : 2 ) : 2 needs a != 0#2 gives result != a ; "


class Drawn(unittest.TestCase):
    def test_other_right_books(self):
        """Other orders of nodes, nodes that nothing uses, other papers, and sides left open to which no input goes."""
        opened = 0
        for seed, program, unit, bounds, book in drawn_books(0, 160):
            if len(repr(book)) > 6000:
                continue
            other = loose_book(random.Random(seed), program, unit, bounds)
            self.assertIs(judge_book(program, unit, bounds, other), True, (seed, unit))
            opened += len(nodes_of(other[4])) > len(nodes_of(book[4]))
        self.assertGreater(opened, 20)

    def test_spoilt_ones_against_a_plain_judge(self):
        taken = seen = 0
        for seed, program, unit, bounds, book in drawn_books(0, 90):
            if len(repr(book)) > 5000:
                continue
            dice = random.Random(seed)
            for round_number in range(12):
                bad = spoilt(dice, book if round_number % 3 else loose_book(dice, program, unit, bounds))
                told = right_book(program, unit, bounds, bad)
                self.assertIs(judge_book(program, unit, bounds, bad), told, (seed, unit, bounds, bad))
                taken += told
                seen += 1
        self.assertTrue(100 < taken < seen - 500)

    def test_books_of_other_units_and_bounds(self):
        books = {}
        for seed, program, unit, bounds, book in drawn_books(0, 60):
            books.setdefault(book[1], []).append(book)
        taken = 0
        for seed, program, unit, bounds in drawn_units(0, 60):
            for book in books.get(tuple(kind for _, kind in [one for one in program if one[1] == unit][0][2]), [])[:6]:
                told = right_book(program, unit, bounds, book)
                self.assertIs(judge_book(program, unit, bounds, book), told, (seed, unit))
                taken += told
        self.assertGreater(taken, 5)


class Spoilt(unittest.TestCase):
    """A book that is changed at each of its places."""

    TEXT = ASK + ("entry function main ( x : 2 , y : 1 ) : 2 { var a : 2 [ 2 ] ; call help ( ) ; "
                  "if x < 2#2 { if x == 3#2 { raise ouch ; } let a [ x ] = 1#2 ; } "
                  "while x != 3#2 { let x = x + wide ( y , 2 ) ; } call x = ask ( x ) ; return x + a [ y ] ; } "
                  "function help ( ) : 1 { return 1#1 ; }")

    def setUp(self):
        self.program = program_of(self.TEXT)
        self.book = book_of(self.program, "main")

    def taken(self, book, told, unit="main", bounds=BOUNDS):
        self.assertIs(judge_book(self.program, unit, bounds, book), told, book)

    def at(self, word, number=0):
        """The place of a node of the tree with this first word."""
        places = [at for at in places_in(self.book) if at[0] == 4
                  and isinstance(part_at(self.book, at), tuple) and part_at(self.book, at)[:1] == (word,)
                  and isinstance(part_at(self.book, at)[-1], tuple)]
        return places[number]

    def changed(self, at, change):
        return with_part(self.book, at, change(part_at(self.book, at)))

    def test_it_is_taken(self):
        self.taken(self.book, True)
        words = {node[0] for node in nodes_of(self.book[4])}
        self.assertEqual(words, {"look", "loop", "ask", "end", "shut"})

    def test_every_number_and_name(self):
        for at in places_in(self.book):
            part = part_at(self.book, at)
            if isinstance(part, int):
                others = [part + 1, part - 1, -1, 1000000, -1000000]
            elif isinstance(part, str) and part not in ("book", "look", "loop", "ask", "end", "shut", "split", "clash"):
                others = ["main", "help", "zero"] if at[0] != 3 else []
            else:
                others = []
            for other in others:
                if other != part and (part not in ("returns", "endless")):
                    book = with_part(self.book, at, other)
                    self.taken(book, right_book(self.program, "main", BOUNDS, book))

    def test_widths(self):
        for widths in ((2,), (1, 2), (2, 2), (2, 1, 1), (), (3, 1), (2, -1)):
            self.taken((self.book[0], widths, *self.book[2:]), False)

    def test_met(self):
        self.assertEqual(self.book[2], ("ask", "help", "main"))
        for met in (("ask", "main"), ("help", "main"), ("help", "ask", "main"), ("ask", "help", "main", "zero"), (),
                    ("ask", "help", "main", "main")):
            self.taken((*self.book[:2], met, *self.book[3:]), False)

    def test_the_sheet(self):
        nodes = self.book[3]
        for bad in ((*nodes, ("word", 9, 0)), (*nodes, ("word", 1, 2)), (*nodes, nodes[0]), (*nodes, ("+", 2, 0)),
                    (*nodes, ("not", 2, len(nodes))), (*nodes, ("not", 1, 0)), (*nodes, ("input", 1, -1))):
            self.taken((*self.book[:3], bad, self.book[4]), False)
        for good in ((*nodes, ("word", 8, 77)), (*nodes, ("input", 8, 77)), (*nodes, ("-", 2, 0, 0))):
            self.taken((*self.book[:3], good, self.book[4]), True)

    def test_sides_exchanged(self):
        for word in ("look", "loop"):
            self.taken(self.changed(self.at(word), lambda node: (*node[:3], node[4], node[3])), False)

    def test_a_look_for_a_loop(self):
        self.taken(self.changed(self.at("look"), lambda node: ("loop", *node[1:])), False)
        self.taken(self.changed(self.at("loop"), lambda node: ("look", *node[1:])), False)

    def test_places(self):
        for place in (("main", 1), ("main", -1), ("help", 0), ("ask", 0), ("", 0)):
            self.taken(self.changed(self.at("look"), lambda node: ("look", place, *node[2:])), False)
            self.taken(self.changed(self.at("loop"), lambda node: ("loop", place, *node[2:])), False)

    def test_shut_on_both_sides(self):
        shut = part_at(self.book, self.at("shut"))
        parent = self.at("shut")[:-1]
        self.taken(self.changed(parent, lambda node: (*node[:3], shut, shut)), False)

    def test_papers(self):
        at = self.at("shut")
        for paper in (("clash", 0), ("clash", -1), ("clash", 100), ("sums", ()), ("split", 9, 0, ("clash", 0), ("clash", 0))):
            self.taken(with_part(self.book, (*at, 1), paper), False)

    def test_shut_where_some_input_goes(self):
        at = self.at("end")
        for paper in (("clash", 0), ("clash", 1), ("split", 0, 0, ("clash", 0), ("clash", 1))):
            self.taken(with_part(self.book, at, ("shut", paper)), False)

    def test_ends(self):
        at = self.at("end")
        for outcome in (("returns", 0), ("returns", -1), ("raises", "ouch"), ("endless",), ("cut", "steps")):
            book = with_part(self.book, at, ("end", outcome))
            self.taken(book, book == self.book)
        self.taken(with_part(self.book, at, ("ask", "ask", (), ("end", ("endless",)))), False)
        self.taken(with_part(self.book, at, ("look", ("main", 0), 0, ("end", ("endless",)), ("end", ("endless",)))), False)

    def test_asks(self):
        at = self.at("ask")
        ask = part_at(self.book, at)
        for args in ((), (*ask[2], 0), (ask[2][0] + 1,), (-1,), (1000,)):
            self.taken(with_part(self.book, at, (*ask[:2], args, ask[3])), False)
        for name in ("main", "help", "other"):
            self.taken(with_part(self.book, at, (ask[0], name, *ask[2:])), False)
        self.taken(with_part(self.book, at, ask[3]), False)
        self.taken(with_part(self.book, at, ("ask", *ask[1:3], ask)), False)

    def test_a_node_left_out(self):
        for number in range(3):
            at = self.at("look", number)
            for side in (3, 4):
                self.taken(self.changed(at, lambda node: node[side]), False)
        self.taken(self.changed(self.at("loop"), lambda node: node[4]), False)

    def test_another_unit_or_bounds(self):
        self.taken(self.book, False, unit="help")
        for bounds in ((5, 4, 4, 8), (24, 1, 4, 8), (24, 4, 4, 4)):
            self.taken(self.book, False, bounds=bounds)
        self.taken(self.book, True, bounds=(23, 3, 0, 7))


class Conditions(unittest.TestCase):
    def test_a_side_whose_condition_is_the_word_0_is_shut(self):
        program = program_of("entry function main ( ) : 1 { if 1#1 { } }")
        nodes = (("word", 1, 1), ("word", 1, 0))
        end = ("end", ("returns", 1))
        look = ("look", ("main", 0), 0, end, ("shut", ("clash", 0)))
        self.assertIs(judge_book(program, "main", BOUNDS, ("book", (), ("main",), nodes, look)), True)
        self.assertIs(judge_book(program, "main", BOUNDS, ("book", (), ("main",), nodes, (*look[:4], end))), False)

    def test_another_side_may_be_left_open(self):
        program = program_of("entry function main ( x : 1 ) : 1 { if x & ~ x { } }")
        nodes = (("input", 1, 0), ("not", 1, 0), ("&", 1, 0, 1), ("word", 1, 0))
        end = ("end", ("returns", 3))
        shut = ("shut", ("split", 0, 0, ("clash", 0), ("clash", 0)))
        for side in (end, shut):
            book = ("book", (1,), ("main",), nodes, ("look", ("main", 0), 2, side, end))
            self.assertIs(judge_book(program, "main", BOUNDS, book), True)
        # But not both are shut, and not the one to which inputs go.
        for sides in ((shut, shut), (end, shut)):
            book = ("book", (1,), ("main",), nodes, ("look", ("main", 0), 2, *sides))
            self.assertIs(judge_book(program, "main", BOUNDS, book), False)

    def test_where_no_input_goes_not_both_sides_are_shut(self):
        program = program_of("entry function main ( x : 1 ) : 1 { if x & ~ x { if x { } } }")
        nodes = (("input", 1, 0), ("not", 1, 0), ("&", 1, 0, 1), ("word", 1, 0))
        end = ("end", ("returns", 3))
        shut = ("shut", ("split", 0, 0, ("clash", 0), ("clash", 0)))
        for yes, no, told in ((shut, shut, False), (shut, end, True), (end, shut, True), (end, end, True)):
            inner = ("look", ("main", 1), 0, yes, no)
            book = ("book", (1,), ("main",), nodes, ("look", ("main", 0), 2, inner, end))
            self.assertIs(judge_book(program, "main", BOUNDS, book), told)
            self.assertIs(right_book(program, "main", BOUNDS, book), told)

    def test_terms_are_the_same_through_and_through(self):
        program = program_of("entry function main ( x : 2 ) : 2 { return x + 1#2 + 1#2 ; }")
        good = (("word", 2, 2), ("input", 2, 0), ("+", 2, 1, 0))
        self.assertIs(judge_book(program, "main", BOUNDS, ("book", (2,), ("main",), good, ("end", ("returns", 2)))), True)
        turned = (("word", 2, 2), ("input", 2, 0), ("+", 2, 0, 1))
        book = ("book", (2,), ("main",), turned, ("end", ("returns", 2)))
        self.assertIs(judge_book(program, "main", BOUNDS, book), False)
        long = (("word", 2, 1), ("input", 2, 0), ("+", 2, 1, 0), ("+", 2, 2, 0))
        book = ("book", (2,), ("main",), long, ("end", ("returns", 3)))
        self.assertIs(judge_book(program, "main", BOUNDS, book), False)

    def test_a_paper_may_use_the_conditions_of_asks(self):
        program = program_of(
            "external e ( ) : 1 steady needs 1#1 gives 1#1 ; entry function main ( ) : 1 { var x : 1 ; var y : 1 ; "
            "call x = e ( ) ; call y = e ( ) ; if x == y { return 1#1 ; } return 0#1 ; }"
        )
        book = book_of(program, "main")
        look = book[4][3][3][3][3]
        self.assertEqual(look[:2], ("look", ("main", 0)))
        # The looks of e, its gives, and again, then that both answers are the same, and the side.
        paper = ("split", 0, 0, ("split", 1, 0, ("clash", 5), ("clash", 4)), ("split", 1, 0, ("clash", 4), ("clash", 5)))
        at = (4, 3, 3, 3, 3, 4, 1)
        self.assertIs(judge_book(program, "main", BOUNDS, with_part(book, at, paper)), True)
        wrong = ("split", 0, 0, ("split", 1, 0, ("clash", 4), ("clash", 5)), ("split", 1, 0, ("clash", 5), ("clash", 4)))
        self.assertIs(judge_book(program, "main", BOUNDS, with_part(book, at, wrong)), False)

    def test_sums_as_a_paper(self):
        program = program_of("entry function main ( x : 2 , y : 2 ) : 1 { if x + y == 1#2 { if x - 2#2 == 2#2 - y { } } }")
        book = book_of(program, "main")
        self.assertEqual(book[4][3][3][0], "shut")
        for rows, told in ((((0, 1), (1, -1)), True), (((0, 1), (1, 1)), False), (((0, 1),), False)):
            other = with_part(book, (4, 3, 3, 1), ("sums", rows))
            self.assertIs(judge_book(program, "main", BOUNDS, other), told)


class Errors(unittest.TestCase):
    def test_a_unit_that_is_too_wide_has_no_right_book(self):
        program = program_of("entry function main ( x : 4 , y : 4 ) : 1 { }")
        book = book_of(program, "main")
        self.assertIs(judge_book(program, "main", BOUNDS, book), True)
        self.assertIs(judge_book(program, "main", (24, 4, 4, 7), book), False)

    def test_bounds(self):
        program = program_of("entry function main ( x : 4 , y : 4 ) : 1 { }")
        book = book_of(program, "main")
        for bounds in ((0, 4, 4, 8), (24, 4, 4), (24, 4, 9, 7), [24, 4, 4, 8]):
            self.assertEqual(error_of(judge_book, program, "main", bounds, book), ("BadBounds",))

    def test_wrong_books_leave_no_trace(self):
        program = program_of("entry function main ( x : 2 ) : 2 { if x < 2#2 { return 1#2 ; } return x ; }")
        book = book_of(program, "main")
        dice = random.Random(3)
        for _ in range(30):
            judge_book(program, "main", BOUNDS, spoilt(dice, book))
            self.assertIs(judge_book(program, "main", BOUNDS, book), True)


if __name__ == "__main__":
    unittest.main()
