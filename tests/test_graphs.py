import unittest

from helping import name, word
from making import made_program
from metorshut.closures import looks_of
from metorshut.graphs import graph_of
from metorshut.parts import statements_in
from metorshut.programs import declared
from metorshut.reading import read_program

HEAD = """
record box { v : 8 ; n : box ; }
external ask ( a : 1 ) : 1 needs 1#1 gives 1#1 ;
external it ( ) : 1 needs 1#1 gives 1#1 ;
function g ( ) : 8 { }
function f ( p : 1 , q : 8 ) : 8 {
    var s : 8 ; var v : 8 [ 3 ] ; var w : 1 [ 2 ] ; var x : box ;
    %s
}
"""
P, Q, S = name("p"), name("q"), name("s")
IS_P = ("is", P)
THERE = ("there", "x")
FIELD = ("field", "x", "v")


class GraphTest(unittest.TestCase):
    def rows(self, text, first, *wanted):
        """The wanted rows stand between row 0, which leads to the first one that is done, and the last one."""
        graph = graph_of(read_program(HEAD % text), "f")
        self.assertEqual(graph, ("graph", (("go", first), *wanted, ("return", None))), text)


class Graphs(GraphTest):
    def test_nothing(self):
        self.rows("", 1)

    def test_let(self):
        self.rows("let s = q ;", 1, ("let", S, Q, 2))
        self.rows(
            "let x . v = div ( q , s ) ;", 1,
            ("look", 0, THERE, 2, "nothing"), ("look", 1, ("some", S), 3, "zero"), ("let", FIELD, ("div", Q, S), 4),
        )
        item = ("item", "v", FIELD)
        self.rows(
            "let v [ x . v ] = s ;", 1,
            ("look", 0, THERE, 2, "nothing"), ("look", 1, ("below", FIELD, 3), 3, "index"), ("let", item, S, 4),
        )

    def test_make(self):
        self.rows("make x = box ;", 1, ("make", "x", "box", 2))

    def test_call(self):
        self.rows("call g ( ) ;", 1, ("call", None, "g", (), 2, ()))
        self.rows(
            "call s = f ( p , x . v ) ;", 1,
            ("look", 0, THERE, 2, "nothing"), ("call", "s", "f", (P, FIELD), 3, ()),
        )

    def test_ask(self):
        self.rows("call it ( ) ;", 1, ("ask", None, "it", (), 2, "duty"))
        item = ("item", "w", Q)
        self.rows(
            "call p = ask ( w [ q ] ) ;", 1,
            ("look", 0, ("below", Q, 2), 2, "index"), ("ask", "p", "ask", (item,), 3, "duty"),
        )

    def test_if(self):
        self.rows("if p { }", 1, ("look", 0, IS_P, 2, 2))
        self.rows("if p { let s = q ; }", 1, ("look", 0, IS_P, 2, 3), ("let", S, Q, 3))
        self.rows("if p { } else { let s = q ; }", 1, ("look", 0, IS_P, 3, 2), ("let", S, Q, 3))
        self.rows(
            "if p { let s = q ; } else { let q = s ; } make x = box ;", 1,
            ("look", 0, IS_P, 2, 3), ("let", S, Q, 4), ("let", Q, S, 4), ("make", "x", "box", 5),
        )
        self.rows(
            "if x . v == s { if p { } }", 1, ("look", 0, THERE, 2, "nothing"),
            ("look", 1, ("is", ("==", FIELD, S)), 3, 4), ("look", 2, IS_P, 4, 4),
        )

    def test_while(self):
        self.rows("while p { }", 1, ("loop", 0, 2), ("look", 0, IS_P, 1, 3))
        self.rows(
            "while s < x . v { let s = q ; }", 1, ("loop", 1, 2), ("look", 0, THERE, 3, "nothing"),
            ("look", 1, ("is", ("<", S, FIELD)), 4, 5), ("let", S, Q, 1),
        )

    def test_while_in_while(self):
        self.rows(
            "while p { while s == q { let s = q ; } } let q = s ;", 1,
            ("loop", 0, 2), ("look", 0, IS_P, 3, 6),
            ("loop", 1, 4), ("look", 1, ("is", ("==", S, Q)), 5, 1), ("let", S, Q, 3),
            ("let", Q, S, 7),
        )
        self.rows(
            "while p { if p { } let s = q ; if p { } }", 1,
            ("loop", 0, 2), ("look", 0, IS_P, 3, 6),
            ("look", 1, IS_P, 4, 4), ("let", S, Q, 5), ("look", 2, IS_P, 1, 1),
        )

    def test_assert(self):
        self.rows("assert p ;", 1, ("look", 0, IS_P, 2, "claim"))
        self.rows(
            "assert x . v == s ; let s = q ;", 1,
            ("look", 0, THERE, 2, "nothing"), ("look", 1, ("is", ("==", FIELD, S)), 3, "claim"), ("let", S, Q, 4),
        )

    def test_return_and_raise(self):
        self.rows("return s ;", 1, ("return", S))
        self.rows("return x . v ;", 1, ("look", 0, THERE, 2, "nothing"), ("return", FIELD))
        self.rows("raise claim ;", 1, ("raise", "claim"))

    def test_rows_behind_these(self):
        self.rows("return s ; let s = q ;", 1, ("return", S), ("let", S, Q, 3))
        self.rows(
            "if p { raise a ; let s = q ; } else { return s ; } let q = s ;", 1,
            ("look", 0, IS_P, 2, 4), ("raise", "a"), ("let", S, Q, 5), ("return", S), ("let", Q, S, 6),
        )
        self.rows(
            "while p { return s ; }", 1, ("loop", 0, 2), ("look", 0, IS_P, 3, 4), ("return", S),
        )


class Tries(GraphTest):
    def test_empty_ones(self):
        self.rows("try { } catch a { }", 1)
        self.rows("try { } catch a { let s = q ; }", 2, ("let", S, Q, 2))
        self.rows("try { try { } catch a { let s = q ; } } catch a { let q = s ; }", 3, ("let", S, Q, 3), ("let", Q, S, 3))
        self.rows("try { raise a ; } catch a { }", 1, ("go", 2))

    def test_raise(self):
        self.rows("try { raise a ; } catch a { let s = q ; }", 1, ("go", 2), ("let", S, Q, 3))
        self.rows("try { raise b ; } catch a { let s = q ; }", 1, ("raise", "b"), ("let", S, Q, 3))
        self.rows(
            "try { raise b ; } catch a { let s = q ; } catch b { let q = s ; } return s ;", 1,
            ("go", 3), ("let", S, Q, 4), ("let", Q, S, 4), ("return", S),
        )

    def test_innermost(self):
        self.rows(
            "try { try { raise a ; raise b ; } catch a { raise a ; raise b ; } } catch b { raise a ; } catch a { }", 1,
            ("go", 3), ("go", 5), ("go", 6), ("go", 5), ("raise", "a"),
        )

    def test_looks(self):
        self.rows(
            "try { let s = div ( x . v , v [ q ] ) ; } catch zero { return s ; } catch nothing { }", 1,
            ("look", 0, THERE, 2, 6), ("look", 1, ("below", Q, 3), 3, "index"),
            ("look", 2, ("some", ("item", "v", Q)), 4, 5),
            ("let", S, ("div", FIELD, ("item", "v", Q)), 6), ("return", S),
        )
        self.rows("try { assert p ; } catch claim { return s ; }", 1, ("look", 0, IS_P, 3, 2), ("return", S))
        self.rows(
            "try { if x . v == s { } } catch nothing { return s ; }", 1, ("look", 0, THERE, 2, 3),
            ("look", 1, ("is", ("==", FIELD, S)), 4, 4), ("return", S),
        )

    def test_asks(self):
        self.rows(
            "try { call ask ( w [ q ] ) ; } catch duty { return s ; } catch index { return q ; }", 1,
            ("look", 0, ("below", Q, 2), 2, 4), ("ask", None, "ask", (("item", "w", Q),), 5, 3),
            ("return", S), ("return", Q),
        )
        self.rows("try { call it ( ) ; } catch zero { }", 1, ("ask", None, "it", (), 2, "duty"))

    def test_calls(self):
        self.rows(
            "try { call g ( ) ; } catch z { let s = q ; } catch a { } catch m { return s ; }", 1,
            ("call", None, "g", (), 4, (("a", 4), ("m", 3), ("z", 2))), ("let", S, Q, 4), ("return", S),
        )
        self.rows(
            "try { try { call g ( ) ; } catch b { call g ( ) ; } } catch a { call g ( ) ; } catch b { return s ; }", 1,
            ("call", None, "g", (), 5, (("a", 3), ("b", 2))), ("call", None, "g", (), 5, (("a", 3), ("b", 4))),
            ("call", None, "g", (), 5, ()), ("return", S),
        )

    def test_in_loops(self):
        self.rows(
            "while p { try { raise a ; } catch a { let s = q ; } }", 1,
            ("loop", 0, 2), ("look", 0, IS_P, 3, 5), ("go", 4), ("let", S, Q, 1),
        )
        self.rows(
            "while p { try { } catch a { raise a ; } }", 1, ("loop", 0, 2), ("look", 0, IS_P, 1, 4), ("raise", "a"),
        )
        self.rows(
            "try { while p { raise a ; } } catch a { while p { } }", 1,
            ("loop", 0, 2), ("look", 0, IS_P, 3, 6), ("go", 4), ("loop", 1, 5), ("look", 1, IS_P, 4, 6),
        )
        self.rows(
            "try { while p { } } catch a { } return s ;", 1, ("loop", 0, 2), ("look", 0, IS_P, 1, 3), ("return", S),
        )


class Random(unittest.TestCase):
    def test_all_rows_are_well_formed(self):
        for seed in range(200):
            program = made_program(seed)
            for one in program:
                if one[0] == "function":
                    self.check_graph(program, one[1])

    def check_graph(self, program, function):
        word_of_graph, rows = graph_of(program, function)
        self.assertEqual(word_of_graph, "graph")
        self.assertEqual(rows[-1], ("return", None))
        looks = [row[1] for row in rows if row[0] == "look"]
        self.assertEqual(looks, list(range(len(looks_of(program, function)))))
        statements = statements_in(declared(program, function)[6])
        loops = [one for one in statements if one[0] == "while"]
        self.assertEqual(len([row for row in rows if row[0] == "loop"]), len(loops))
        own = [one for one in statements if one[0] not in ("if", "while", "assert", "try")]
        self.assertEqual(len(rows), 2 + len(looks) + len(loops) + len(own))
        for row in rows:
            for part in self.targets(row):
                self.assertTrue(1 <= part < len(rows))

    def targets(self, row):
        found = {"look": row[3:5], "ask": row[4:6], "return": (), "raise": ()}.get(row[0])
        if row[0] == "call":
            self.assertEqual(row[5], tuple(sorted(row[5])))
            found = [row[4], *[at for _, at in row[5]]]
        return [part for part in (row[-1:] if found is None else found) if isinstance(part, int)]


class Words(unittest.TestCase):
    def test_conditions_keep_their_exprs(self):
        program = read_program("function f ( ) : 1 { if 1#1 { } assert ~ 0#1 ; }")
        self.assertEqual(
            graph_of(program, "f")[1][1:3],
            (("look", 0, ("is", word(1, 1)), 2, 2), ("look", 1, ("is", ("not", word(0, 1))), 3, "claim")),
        )


if __name__ == "__main__":
    unittest.main()
