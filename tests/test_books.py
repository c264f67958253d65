"""Finding the books of units."""

import unittest

from drawing import drawn_books, nodes_of
from helping import error_of, program_of
from metorshut.books import book_of
from metorshut.bounds import BOUNDS
from metorshut.externals import let_answers
from metorshut.following import judge_book
from metorshut.inputs import inputs_of
from metorshut.programs import declared
from metorshut.runs import Machine
from metorshut.values import value_of
from plainbook import right_book

ASK = "external ask ( a : 2 ) : 2 needs a != 0#2 gives result != a ; "
SAME = "external same ( a : 1 ) : 1 steady needs 1#1 gives 1#1 ; "
BOX = "record box { v : 2 ; n : box ; } "


class Going:
    """The way of a full input in a tree: conditions tell the sides; it stops at a shut side."""

    def __init__(self, book, args, answers):
        self.nodes = book[3]
        self.words = args
        self.left = list(answers)
        self.ways, self.asked, self.passed = [], [], []
        self.end = self.go(book[4])

    def value(self, term):
        return value_of(self.nodes, self.words, term)

    def go(self, tree):
        while tree[0] in ("look", "loop", "ask"):
            self.passed.append(id(tree))
            if tree[0] == "ask":
                self.asked.append((tree[1], tuple(self.value(arg) for arg in tree[2])))
                self.words = (*self.words, self.left.pop(0))
                tree = tree[3]
                continue
            bit = self.value(tree[2])
            if tree[0] == "look":
                self.ways.append((*tree[1], bit))
            tree = tree[3] if bit else tree[4]
            self.passed.append(id(tree))
        if tree[0] == "shut":
            return tree
        outcome = tree[1]
        return ("returns", self.value(outcome[1])) if outcome[0] == "returns" else outcome


class Drawn(unittest.TestCase):
    def test_drawn_programs(self):
        seen = {}
        for seed, program, unit, bounds, book in drawn_books(0, 260):
            self.assertTrue(judge_book(program, unit, bounds, book), (seed, unit))
            self.assertTrue(right_book(program, unit, bounds, book), (seed, unit))
            reached = set()
            machine = Machine(program)
            met = set()
            for args, answers in inputs_of(program, unit, bounds):
                report = machine.run(unit, args, answers, bounds)
                going = Going(book, args, answers)
                told = (tuple(going.ways), tuple(going.asked), going.end)
                self.assertEqual(told, report[1:4], (seed, unit, args, answers))
                self.assertEqual(going.left, [])
                reached.update(going.passed)
                met.update(report[4])
                seen[report[3][0]] = seen.get(report[3][0], 0) + 1
            self.assertEqual(book[2], tuple(sorted(met)))
            self.check_shut(book, reached)
        self.assertEqual(set(seen), {"returns", "raises", "endless", "cut"})

    def check_shut(self, book, reached):
        """Each side to which no input goes is shut, and no other one."""
        for node in nodes_of(book[4])[1:]:
            if node[0] == "shut":
                self.assertNotIn(id(node), reached)
            elif node[0] != "end":
                self.assertIn(id(node), reached)

    def test_each_kind_of_node_is_drawn(self):
        words = {}
        for _, _, _, _, book in drawn_books(0, 260):
            for node in nodes_of(book[4]):
                words[node[0]] = words.get(node[0], 0) + 1
        for word in ("look", "loop", "ask", "end", "shut"):
            self.assertGreater(words[word], 20, word)


class Books(unittest.TestCase):
    def book(self, text, bounds=BOUNDS, unit="main"):
        program = program_of(text)
        found = book_of(program, unit, bounds)
        self.assertTrue(judge_book(program, unit, bounds, found))
        self.assertTrue(right_book(program, unit, bounds, found))
        return found

    def main(self, params, body, bounds=BOUNDS, ahead=""):
        return self.book(ahead + f"entry function main ( {params} ) : 2 {{ {body} }}", bounds)

    def term(self, book, number):
        """A term, with its operands in the place of their numbers."""
        node = book[3][number]
        if node[0] in ("word", "input"):
            return node
        return (*node[:2], *[self.term(book, part) for part in node[2:]])

    def test_a_plain_one(self):
        book = self.main("x : 2", "if x == 1#2 { return x + 2#2 ; } return 3#2 ;")
        self.assertEqual(book[:3], ("book", (2,), ("main",)))
        word, place, term, yes, no = book[4]
        self.assertEqual((word, place), ("look", ("main", 0)))
        self.assertEqual(self.term(book, term), ("==", 1, ("input", 2, 0), ("word", 2, 1)))
        self.assertEqual(yes[0], "end")
        self.assertEqual(self.term(book, yes[1][1]), ("+", 2, ("input", 2, 0), ("word", 2, 2)))
        self.assertEqual(self.term(book, no[1][1]), ("word", 2, 3))

    def test_a_unit_without_parameters(self):
        book = self.main("", "")
        self.assertEqual(book[:3], ("book", (), ("main",)))
        self.assertEqual(book[4][0], "end")
        self.assertEqual(self.term(book, book[4][1][1]), ("word", 2, 0))

    def test_shut_sides(self):
        book = self.main("x : 2", "if x < 2#2 { if x == 3#2 { return 1#2 ; } }")
        self.assertEqual(book[4][3][3][0], "shut")
        self.assertEqual(book[4][3][4][0], "end")

    def test_what_is_asked(self):
        book = self.main("x : 2", "call x = ask ( x ) ; call x = ask ( x + 1#2 ) ; return x ;", ahead=ASK)
        look = book[4]
        self.assertEqual(look[:2], ("look", ("ask", 0)))
        self.assertEqual(look[4], ("end", ("raises", "duty")))
        ask = look[3]
        self.assertEqual(ask[:2], ("ask", "ask"))
        self.assertEqual([self.term(book, arg) for arg in ask[2]], [("input", 2, 0)])
        second = ask[3][3]
        self.assertEqual(second[0], "ask")
        self.assertEqual(self.term(book, second[2][0]), ("+", 2, ("input", 2, 1), ("word", 2, 1)))
        self.assertEqual(self.term(book, second[3][1][1]), ("input", 2, 2))

    def test_gives_shut_a_side(self):
        book = self.main("x : 2", "var y : 2 ; call y = ask ( x ) ; if x == y { return 1#2 ; }", ahead=ASK)
        self.assertEqual(book[4][3][3][3][0], "shut")
        book = self.main("x : 1", "var y : 1 ; var z : 1 ; call y = same ( x ) ; call z = same ( 1#1 ) ; "
                         "if x == 1#1 { if y == z { return 1#2 ; } }", ahead=SAME)
        inner = book[4][3][3][3][3][3]
        self.assertEqual(inner[:2], ("look", ("main", 1)))
        self.assertEqual(inner[4][0], "shut")

    def test_references(self):
        book = self.main("x : 2", "var b : box ; var c : box ; make b = box ; let b . v = x ; let b . n = b ; "
                         "if b . n == b { return b . v ; } return c . v ;", ahead=BOX)
        nodes = nodes_of(book[4])
        self.assertEqual([node[0] for node in nodes if node[0] == "end"], ["end"])
        self.assertEqual(book[2], ("box", "main"))
        self.assertEqual(sum(node[0] == "shut" for node in nodes), 5)
        self.assertEqual(self.term(book, [node for node in nodes if node[0] == "end"][0][1][1]), ("input", 2, 0))

    def test_comparisons_of_references_are_words_of_width_1(self):
        body = ("var b : box ; var c : box ; make b = box ; if ~ ( b != c ) { return 3#2 ; } "
                "return wide ( ( b == b ) + wide ( x , 1 ) , 2 ) + wide ( - ( c == null ) , 2 ) ;")
        book = self.main("x : 2", body, ahead=BOX)
        self.assertEqual(book[4][3][0], "shut")
        told = ("+", 1, ("wide", 1, ("input", 2, 0)), ("word", 1, 1))
        self.assertEqual(self.term(book, book[4][4][1][1]), ("+", 2, ("wide", 2, told), ("word", 2, 1)))

    def test_items_with_a_narrow_index(self):
        # An index of width 1 comes only to the first two words.
        book = self.main("i : 1 , x : 2", "var a : 2 [ 4 ] ; let a [ i ] = x ; return a [ 3#2 ] + a [ i ] ;")
        end = book[4][3][3][3]
        self.assertEqual(book[4][4][0], "shut")
        i, x, none = ("input", 1, 0), ("input", 2, 1), ("word", 2, 0)
        first = ("pick", 2, ("not", 1, i), x, none)
        self.assertEqual(self.term(book, end[1][1]), ("pick", 2, ("not", 1, i), first, ("pick", 2, i, x, none)))

    def test_items_with_a_wide_index(self):
        book = self.main("i : 3", "var a : 2 [ 2 ] ; return a [ i ] ;")
        self.assertEqual(self.term(book, book[4][2]), ("<", 1, ("input", 3, 0), ("word", 3, 2)))
        self.assertEqual(book[4][4], ("end", ("raises", "index")))
        book = self.main("i : 3", "var a : 2 [ 8 ] ; return a [ i ] ;")
        self.assertEqual(self.term(book, book[4][2]), ("word", 1, 1))
        self.assertEqual(book[4][4][0], "shut")
        book = self.main("i : 3", "var a : 2 [ 1 ] ; let a [ i ] = 1#2 ; return a [ 0#1 ] ;")
        self.assertEqual(self.term(book, book[4][3][3][1][1]),
                         ("pick", 2, ("==", 1, ("input", 3, 0), ("word", 3, 0)), ("word", 2, 1), ("word", 2, 0)))

    def test_an_item_is_a_chain_of_picks(self):
        body = "var a : 2 [ 3 ] ; let a [ 0#2 ] = 1#2 ; let a [ 1#2 ] = 2#2 ; let a [ 2#2 ] = 3#2 ; return a [ i ] ;"
        book = self.main("i : 3", body)
        i = ("input", 3, 0)
        told = ("pick", 2, ("==", 1, i, ("word", 3, 0)), ("word", 2, 1),
                ("pick", 2, ("==", 1, i, ("word", 3, 1)), ("word", 2, 2), ("word", 2, 3)))
        self.assertEqual(self.term(book, book[4][3][3][3][3][1][1]), told)

    def test_div(self):
        book = self.main("x : 2", "return div ( 2#2 , x ) ;")
        self.assertEqual(self.term(book, book[4][2]), ("not", 1, ("==", 1, ("input", 2, 0), ("word", 2, 0))))
        self.assertEqual(book[4][4], ("end", ("raises", "zero")))

    def test_loops(self):
        book = self.main("x : 2 , y : 2", "while x != 0#2 { let x = x - y ; }")
        first = book[4]
        self.assertEqual(first[:2], ("look", ("main", 0)))
        loop = first[3]
        self.assertEqual(loop[:2], ("loop", ("main", 0)))
        # x is what it was, if y is 0; y is always what it was.
        self.assertEqual(loop[3], ("end", ("endless",)))
        x, y = ("input", 2, 0), ("input", 2, 1)
        self.assertEqual(self.term(book, loop[2]), ("==", 1, x, ("-", 2, x, y)))

    def test_a_loop_that_is_surely_endless(self):
        book = self.main("", "while 1#1 { }")
        loop = book[4][3]
        self.assertEqual(self.term(book, loop[2]), ("word", 1, 1))
        self.assertEqual(loop[3], ("end", ("endless",)))
        self.assertEqual(loop[4][0], "shut")

    def test_asks_and_objects_part_the_times_of_a_loop(self):
        book = self.main("", "while 1#1 { call same ( 1#1 ) ; }", (32, 4, 4, 3), SAME)
        self.assertEqual([node for node in nodes_of(book[4]) if node[0] == "loop"], [])
        self.assertIn(("end", ("cut", "bits")), nodes_of(book[4]))
        book = self.main("", "var b : box ; while 1#1 { make b = box ; }", (32, 4, 3, 3), BOX)
        self.assertEqual([node for node in nodes_of(book[4]) if node[0] == "loop"], [])
        self.assertIn(("end", ("cut", "objects")), nodes_of(book[4]))

    def test_objects_that_no_variable_refers_to_part_the_times_of_a_loop(self):
        help_text = BOX + "function help ( ) : 1 { var b : box ; make b = box ; } "
        book = self.main("", "while 1#1 { call help ( ) ; }", (32, 4, 3, 3), help_text)
        self.assertEqual([node for node in nodes_of(book[4]) if node[0] == "loop"], [])
        self.assertIn(("end", ("cut", "objects")), nodes_of(book[4]))

    def test_fields_part_the_times_of_a_loop(self):
        body = "var b : box ; make b = box ; while b . v != x { let b . v = b . v + 1#2 ; }"
        book = self.main("x : 2", body, (32, 4, 3, 3), BOX)
        self.assertEqual([node for node in nodes_of(book[4]) if node[0] == "loop"], [])
        book = self.main("x : 2 , y : 2", body.replace("1#2", "y"), (32, 4, 3, 4), BOX)
        loops = [node for node in nodes_of(book[4]) if node[0] == "loop"]
        x, y = ("input", 2, 0), ("input", 2, 1)
        self.assertEqual(self.term(book, loops[0][2]), ("==", 1, y, ("word", 2, 0)))
        self.assertEqual(self.term(book, book[4][3][2]), ("not", 1, ("==", 1, x, ("word", 2, 0))))

    def test_references_part_the_times_of_a_loop(self):
        # At the second time b refers to the other object; at the third one to the first object again.
        body = ("var b : box ; var c : box ; var d : box ; make b = box ; make c = box ; "
                "while 1#1 { let d = b ; let b = c ; let c = d ; }")
        book = self.main("", body, (32, 4, 3, 3), BOX)
        nodes = nodes_of(book[4])
        self.assertEqual([node[0] for node in nodes if node[0] in ("look", "loop")], ["look", "look", "look", "loop"])
        self.assertEqual([node for node in nodes if node[0] == "end"], [("end", ("endless",))])

    def test_each_bound(self):
        ends = {
            (5, 4, 4, 8): "steps", (32, 3, 4, 8): "depth", (32, 4, 2, 8): "objects", (32, 4, 4, 4): "bits",
        }
        text = BOX + SAME + ("entry function main ( x : 2 ) : 2 { var b : box ; make b = box ; call same ( 1#1 ) ; "
                             "call x = main ( x ) ; return x ; }")
        for bounds, bound in ends.items():
            nodes = nodes_of(self.book(text, bounds)[4])
            self.assertEqual([node for node in nodes if node[0] == "end"], [("end", ("cut", bound))], bounds)
        # One more of each, and the next bound cuts.
        for steps in range(1, 13):
            self.book(text, (steps, 4, 4, 8))

    def test_calls_round_and_to_itself(self):
        text = ("function even ( n : 3 ) : 1 { var r : 1 ; if n == 0#3 { return 1#1 ; } call r = odd ( n - 1#3 ) ; "
                "return r ; } function odd ( n : 3 ) : 1 { var r : 1 ; if n == 0#3 { return 0#1 ; } "
                "call r = even ( n - 1#3 ) ; return r ; }")
        book = self.book(text, (32, 8, 0, 8), "even")
        self.assertEqual(book[2], ("even", "odd"))
        self.assertEqual(sum(node[0] == "end" for node in nodes_of(book[4])), 8)

    def test_tries(self):
        text = ("function low ( x : 2 ) : 2 { if x == 0#2 { raise ouch ; } return div ( 3#2 , x - 1#2 ) ; } "
                "entry function main ( x : 2 ) : 2 { try { call x = low ( x ) ; } catch ouch { return 1#2 ; } "
                "catch zero { raise bad ; } return x ; }")
        book = self.book(text)
        self.assertIn(("end", ("raises", "bad")), nodes_of(book[4]))

    def test_what_is_met(self):
        text = ("function a ( ) : 1 { } function b ( ) : 1 { } " + SAME +
                "entry function main ( x : 1 ) : 1 { call a ( ) ; if x != x { call b ( ) ; } call same ( x ) ; }")
        self.assertEqual(self.book(text)[2], ("a", "main", "same"))
        self.assertEqual(self.book(text, (1, 1, 0, 1))[2], ("a", "main"))


class Limits(unittest.TestCase):
    def counting(self, many):
        """A program with as many ends: a search by halves for what x is at most, and one end more for a greater x."""
        last = many - 2
        return (f"entry function main ( x : 8 ) : 8 {{ var m : 8 ; var s : 8 ; let m = 128#8 ; "
                f"if {last}#8 < x {{ let x = {last}#8 ; }} "
                "while m != 0#8 { if s + m <= x { let s = s + m ; } let m = m >> 1#1 ; } return s ; }")

    def test_leaves(self):
        bounds = (32, 4, 4, 8)
        for many in (57, 199, 200):
            program = program_of(self.counting(many))
            book = book_of(program, "main", bounds)
            self.assertEqual(sum(node[0] == "end" for node in nodes_of(book[4])), many)
            self.assertTrue(judge_book(program, "main", bounds, book))
        for many in (201, 202, 240):
            program = program_of(self.counting(many))
            self.assertEqual(error_of(book_of, program, "main", bounds), ("TooMany", "leaves"))

    def test_widths(self):
        program = program_of("entry function main ( x : 4 , y : 3 ) : 1 { call help ( x , x ) ; } "
                             "function help ( x : 4 , y : 4 ) : 1 { }")
        self.assertEqual(error_of(book_of, program, "main", (24, 4, 4, 6)), ("TooWide", "main"))
        self.assertIsNone(error_of(book_of, program, "main", (24, 4, 4, 7)))
        self.assertEqual(error_of(book_of, program, "help", (24, 4, 4, 7)), ("TooWide", "help"))
        self.assertEqual(error_of(book_of, program, "main", (0, 4, 4, 6)), ("BadBounds",))
        self.assertEqual(error_of(book_of, program, "help", (24, 4, 4)), ("BadBounds",))

    def test_the_default_bounds(self):
        program = program_of("entry function main ( x : 4 ) : 4 { while x != 0#4 { let x = x - 2#4 ; } return x ; }")
        self.assertEqual(book_of(program, "main"), book_of(program, "main", BOUNDS))
        self.assertNotEqual(book_of(program, "main"), book_of(program, "main", (5, 4, 4, 8)))

    def test_equal_calls_give_equal_books(self):
        text = ASK + "entry function main ( x : 2 ) : 2 { call x = ask ( x ) ; return x ; }"
        first = book_of(program_of(text), "main")
        book_of(program_of(SAME + "entry function main ( ) : 1 { }"), "main")
        self.assertEqual(book_of(program_of(text), "main"), first)

    def test_a_book_within_time(self):
        text = ("entry function main ( a : 4 , b : 4 ) : 4 { while a != b { if a < b { let b = b - a ; } "
                "else { let a = a - b ; } } return a ; }")
        program = program_of(text)
        book = book_of(program, "main", (32, 4, 4, 8))
        self.assertTrue(judge_book(program, "main", (32, 4, 4, 8), book))
        self.assertEqual(sum(node[0] == "end" for node in nodes_of(book[4])), 145)


class Answers(unittest.TestCase):
    def test_books_of_12_bits(self):
        text = ("external e ( a : 2 ) : 2 steady needs 1#1 gives result != a ; entry function main ( a : 2 ) : 2 { "
                "var b : 2 ; var s : 3 ; while s < 5#3 { call b = e ( b + a ) ; let s = s + 1#3 ; "
                "if b == a { return a ; } } return b ; }")
        program = program_of(text)
        bounds = (32, 4, 4, 12)
        book = book_of(program, "main", bounds)
        self.assertTrue(judge_book(program, "main", bounds, book))
        machine = Machine(program)
        for args, answers in inputs_of(program, "main", bounds):
            going = Going(book, args, answers)
            self.assertEqual((tuple(going.ways), tuple(going.asked), going.end),
                             machine.run("main", args, answers, bounds)[1:4])
        self.assertEqual(let_answers(declared(program, "e"), (1,), ()), (0, 2, 3))


if __name__ == "__main__":
    unittest.main()
