import unittest

from helping import name, read_body, read_expr, word
from metorshut.reading import read_program

A, B, C, D = name("a"), name("b"), name("c"), name("d")


class Declarations(unittest.TestCase):
    def test_records(self):
        self.assertEqual(read_program("record box { }"), (("record", "box", ()),))
        self.assertEqual(
            read_program("record box{v:8;n:box;w:0;}"),
            (("record", "box", (("v", 8), ("n", "box"), ("w", 0))),),
        )

    def test_externals(self):
        self.assertEqual(
            read_program("external ask ( ) : 2 needs 1#1 gives result == 0#2 ;"),
            (("external", "ask", (), 2, 0, word(1, 1), ("==", name("result"), word(0, 2))),),
        )
        self.assertEqual(
            read_program("external ask(a:3,b:r):200 steady needs a gives b;"),
            (("external", "ask", (("a", 3), ("b", "r")), 200, 1, A, B),),
        )

    def test_functions(self):
        self.assertEqual(
            read_program("function f ( ) : 8 { }"), (("function", "f", (), 8, 0, (), ()),)
        )
        self.assertEqual(
            read_program("entry function f(a:1,b:box):box{var c:8;var d:4[3];var e:box;return a;}"),
            ((
                "function", "f", (("a", 1), ("b", "box")), "box", 1,
                (("c", 8), ("d", 4, 3), ("e", "box")), (("return", A),),
            ),),
        )

    def test_several_declarations(self):
        program = read_program("record a { } function b ( ) : 1 { } record c { }")
        self.assertEqual([one[1] for one in program], ["a", "b", "c"])


class Statements(unittest.TestCase):
    def test_let(self):
        self.assertEqual(read_body("let a = b ;"), (("let", A, B),))
        self.assertEqual(read_body("let a [ b + c ] = d ;"), (("let", ("item", "a", ("+", B, C)), D),))
        self.assertEqual(read_body("let a . b = null ;"), (("let", ("field", "a", "b"), ("null",)),))

    def test_make(self):
        self.assertEqual(read_body("make a = box ;"), (("make", "a", "box"),))

    def test_call(self):
        self.assertEqual(read_body("call f ( ) ;"), (("call", None, "f", ()),))
        self.assertEqual(read_body("call a = f ( ) ;"), (("call", "a", "f", ()),))
        self.assertEqual(read_body("call f ( a ) ;"), (("call", None, "f", (A,)),))
        self.assertEqual(read_body("call a = f ( a , b == c , d ) ;"), (("call", "a", "f", (A, ("==", B, C), D)),))

    def test_if(self):
        self.assertEqual(read_body("if a { }"), (("if", A, (), ()),))
        self.assertEqual(read_body("if a { } else { }"), (("if", A, (), ()),))
        self.assertEqual(
            read_body("if a { raise x ; } else { raise y ; raise z ; }"),
            (("if", A, (("raise", "x"),), (("raise", "y"), ("raise", "z"))),),
        )
        self.assertEqual(
            read_body("if a { if b { } else { raise x ; } }"),
            (("if", A, (("if", B, (), (("raise", "x"),)),), ()),),
        )

    def test_while(self):
        self.assertEqual(read_body("while a < b { }"), (("while", ("<", A, B), ()),))
        self.assertEqual(
            read_body("while a { while b { return c ; } }"),
            (("while", A, (("while", B, (("return", C),)),)),),
        )

    def test_return_raise_assert(self):
        self.assertEqual(
            read_body("return a ; raise index ; assert b ;"), (("return", A), ("raise", "index"), ("assert", B))
        )

    def test_try(self):
        self.assertEqual(read_body("try { } catch a { }"), (("try", (), (("a", ()),)),))
        self.assertEqual(
            read_body("try { try { } catch a { raise b ; } catch c { } } catch a { } catch a { } catch d { return a ; }"),
            ((
                "try",
                (("try", (), (("a", (("raise", "b"),)), ("c", ()))),),
                (("a", ()), ("a", ()), ("d", (("return", A),))),
            ),),
        )


class Exprs(unittest.TestCase):
    def test_bottoms(self):
        self.assertEqual(read_expr("a"), A)
        self.assertEqual(read_expr("not"), name("not"))
        self.assertEqual(read_expr("1 # 8"), word(1, 8))
        self.assertEqual(read_expr("255#0"), word(255, 0))
        self.assertEqual(read_expr("null"), ("null",))
        self.assertEqual(read_expr("a [ b [ c ] ]"), ("item", "a", ("item", "b", C)))
        self.assertEqual(read_expr("a . b"), ("field", "a", "b"))
        self.assertEqual(read_expr("pick ( a , b , c )"), ("pick", A, B, C))
        self.assertEqual(read_expr("wide ( a | b , 3 )"), ("wide", ("|", A, B), 3))
        self.assertEqual(read_expr("div ( a , b )"), ("div", A, B))
        self.assertEqual(read_expr("rem ( a == b , c )"), ("rem", ("==", A, B), C))

    def test_operators_go_to_the_left(self):
        for op in ("|", "^", "&", "<<", ">>", "+", "-", "*"):
            self.assertEqual(read_expr(f"a {op} b {op} c"), (op, (op, A, B), C))
            self.assertEqual(read_expr(f"a {op} ( b {op} c )"), (op, A, (op, B, C)))
        self.assertEqual(read_expr("a + b - c + d"), ("+", ("-", ("+", A, B), C), D))
        self.assertEqual(read_expr("a << b >> c"), (">>", ("<<", A, B), C))

    def test_levels(self):
        levels = [("|",), ("^",), ("&",), ("==", "!=", "<", "<="), ("<<", ">>"), ("+", "-"), ("*",)]
        for at, looser in enumerate(levels):
            for tighter in levels[at + 1:]:
                for one in looser:
                    for other in tighter:
                        self.assertEqual(read_expr(f"a {one} b {other} c"), (one, A, (other, B, C)))
                        self.assertEqual(read_expr(f"a {other} b {one} c"), (one, (other, A, B), C))
                        self.assertEqual(read_expr(f"( a {one} b ) {other} c"), (other, (one, A, B), C))

    def test_comparisons(self):
        for op in ("==", "!=", "<", "<="):
            self.assertEqual(read_expr(f"a {op} b"), (op, A, B))
            self.assertEqual(read_expr(f"( a {op} b ) {op} c"), (op, (op, A, B), C))
            self.assertEqual(read_expr(f"a {op} ( b {op} c )"), (op, A, (op, B, C)))
        self.assertEqual(read_expr("a == b & c == d"), ("&", ("==", A, B), ("==", C, D)))
        self.assertEqual(read_expr("a < b | c <= d ^ a"), ("|", ("<", A, B), ("^", ("<=", C, D), A)))

    def test_signs_in_front(self):
        self.assertEqual(read_expr("~ - a"), ("not", ("neg", A)))
        self.assertEqual(read_expr("- - - a"), ("neg", ("neg", ("neg", A))))
        self.assertEqual(read_expr("- a * b"), ("*", ("neg", A), B))
        self.assertEqual(read_expr("a * - b"), ("*", A, ("neg", B)))
        self.assertEqual(read_expr("a - - b"), ("-", A, ("neg", B)))
        self.assertEqual(read_expr("- ( a + b )"), ("neg", ("+", A, B)))
        self.assertEqual(read_expr("~a[b]"), ("not", ("item", "a", B)))
        self.assertEqual(read_expr("~a==b"), ("==", ("not", A), B))

    def test_parentheses_that_are_not_needed(self):
        self.assertEqual(read_expr("( ( a ) )"), A)
        self.assertEqual(read_expr("( a * b ) + ( c )"), ("+", ("*", A, B), C))
        self.assertEqual(read_expr("( ( ( a + b ) ) + c )"), ("+", ("+", A, B), C))


class Depths(unittest.TestCase):
    def test_open_brackets(self):
        self.assertEqual(read_expr("( " * 19 + "a" + " )" * 19), A)
        tree = read_expr("a [ " * 19 + "a" + " ]" * 19)
        for _ in range(19):
            self.assertEqual(tree[:2], ("item", "a"))
            tree = tree[2]
        self.assertEqual(tree, A)
        body = read_body("if a { " * 19 + "}" * 19)
        for _ in range(19):
            body = body[0][2]
        self.assertEqual(body, ())

    def test_signs_directly_behind_each_other(self):
        tree = read_expr("~ - " * 10 + "a")
        for at in range(20):
            self.assertEqual(tree[0], ("not", "neg")[at % 2])
            tree = tree[1]
        self.assertEqual(tree, A)

    def test_signs_in_all_brackets(self):
        text = "( " + "- " * 20
        self.assertEqual(read_expr(text * 3 + "a" + " )" * 3), read_expr("- ( " * 60 + "a" + " )" * 60))

    def test_long_rows(self):
        tree = read_expr(" + ".join(["a"] * 50))
        for _ in range(49):
            self.assertEqual((tree[0], tree[2]), ("+", A))
            tree = tree[1]
        self.assertEqual(len(read_body("raise x ; " * 1600)), 1600)
        fields = "".join("v : 8 ; " for _ in range(1200))
        self.assertEqual(len(read_program("record r { " + fields + "}")[0][2]), 1200)

    def test_all_levels_in_all_brackets(self):
        text = "a | a ^ a & a == a << a + a * ( "
        tree = read_expr(text * 6 + "a" + " )" * 6)
        self.assertEqual(tree[0], "|")


if __name__ == "__main__":
    unittest.main()
