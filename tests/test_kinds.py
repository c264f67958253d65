import unittest

from helping import error_of, name, read_expr, word
from metorshut.check import check
from metorshut.kinds import kind_of
from metorshut.reading import read_program

PROGRAM = read_program("""
record box { v : 8 ; n : box ; o : other ; }
record other { b : 1 ; }
function f ( p : 1 , q : 3 , r : box ) : 8 {
    var s : 3 ; var t : 8 ; var u : other ; var v : 4 [ 3 ] ; var w : 1 [ 2 ] ; var x : box ;
}
function g ( z : 2 ) : 1 { }
""")


class Kinds(unittest.TestCase):
    def kind(self, text, kind, function="f"):
        self.assertEqual(kind_of(PROGRAM, function, read_expr(text)), kind, text)

    def bad(self, text, *told):
        self.assertEqual(error_of(kind_of, PROGRAM, "f", read_expr(text)), told, text)

    def test_the_program_is_let(self):
        self.assertIsNone(check(PROGRAM))

    def test_names(self):
        self.kind("p", 1)
        self.kind("s", 3)
        self.kind("r", "box")
        self.kind("u", "other")
        self.kind("z", 2, "g")
        self.bad("z", "Unknown", "z")
        self.bad("box", "Unknown", "box")
        self.bad("f", "Unknown", "f")
        self.bad("v", "BadUse", "v")

    def test_items(self):
        self.kind("v [ s ]", 4)
        self.kind("w [ v [ p ] ]", 1)
        self.bad("z [ a ]", "Unknown", "z")
        self.bad("s [ a ]", "BadUse", "s")
        self.bad("r [ a ]", "BadUse", "r")
        self.bad("v [ a ]", "Unknown", "a")
        self.bad("v [ r ]", "BadWidth", "[")
        self.bad("v [ null ]", "BadWidth", "[")

    def test_fields(self):
        self.kind("r . v", 8)
        self.kind("x . n", "box")
        self.kind("r . o", "other")
        self.kind("u . b", 1)
        self.bad("z . v", "Unknown", "z")
        self.bad("s . v", "BadUse", "s")
        self.bad("v . v", "BadUse", "v")
        self.bad("r . b", "Unknown", "b")
        self.bad("u . v", "Unknown", "v")

    def test_words(self):
        self.kind("0 # 1", 1)
        self.kind("1 # 1", 1)
        self.kind("255 # 8", 8)
        self.bad("2 # 1", "BadNumber", 2)
        self.bad("8 # 3", "BadNumber", 8)
        self.bad("0 # 0", "BadNumber", 0)
        self.bad("1 # 9", "BadNumber", 9)
        self.bad("200 # 255", "BadNumber", 255)
        for value in (256, -1):
            self.assertEqual(error_of(kind_of, PROGRAM, "f", word(value, 8)), ("BadNumber", value))
        self.assertEqual(error_of(kind_of, PROGRAM, "f", word(-1, -1)), ("BadNumber", -1))

    def test_null(self):
        self.kind("null", "null")

    def test_signs_in_front(self):
        self.kind("~ s", 3)
        self.kind("- t", 8)
        self.bad("~ r", "BadWidth", "~")
        self.bad("~ null", "BadWidth", "~")
        self.bad("- u", "BadWidth", "-")
        self.bad("- v", "BadUse", "v")
        self.bad("- ~ r", "BadWidth", "~")

    def test_two_words_of_one_width(self):
        for op in "+ - * & | ^".split():
            self.kind(f"s {op} q", 3)
            self.kind(f"t {op} t", 8)
            self.bad(f"s {op} t", "BadWidth", op)
            self.bad(f"p {op} 1#2", "BadWidth", op)
            for other in ("r", "null", "u"):
                self.bad(f"s {op} {other}", "BadWidth", op)
                self.bad(f"{other} {op} s", "BadWidth", op)
            self.bad(f"r {op} x", "BadWidth", op)
            self.bad(f"null {op} null", "BadWidth", op)
        for op in ("div", "rem"):
            self.kind(f"{op} ( s , q )", 3)
            self.bad(f"{op} ( s , t )", "BadWidth", op)
            self.bad(f"{op} ( r , r )", "BadWidth", op)
            self.bad(f"{op} ( null , null )", "BadWidth", op)
        for op in ("<", "<="):
            self.kind(f"s {op} q", 1)
            self.bad(f"s {op} t", "BadWidth", op)
            self.bad(f"r {op} r", "BadWidth", op)
            self.bad(f"null {op} null", "BadWidth", op)

    def test_shifts(self):
        for op in ("<<", ">>"):
            self.kind(f"s {op} t", 3)
            self.kind(f"t {op} p", 8)
            self.kind(f"t {op} t", 8)
            self.bad(f"r {op} p", "BadWidth", op)
            self.bad(f"p {op} r", "BadWidth", op)
            self.bad(f"p {op} null", "BadWidth", op)

    def test_equal(self):
        for op in ("==", "!="):
            for left, right in (
                ("s", "q"), ("t", "t"), ("null", "null"), ("null", "r"), ("r", "null"), ("u", "null"), ("r", "x"),
                ("r . n", "x"), ("u", "r . o"),
            ):
                self.kind(f"{left} {op} {right}", 1)
            for left, right in (("s", "t"), ("r", "u"), ("s", "null"), ("null", "s"), ("r", "s"), ("r . o", "r . n")):
                self.bad(f"{left} {op} {right}", "BadWidth", op)

    def test_pick(self):
        self.kind("pick ( p , s , q )", 3)
        self.kind("pick ( p , p , p )", 1)
        for text in ("s , s , q", "p , s , t", "p , r , r", "p , null , null", "r , s , s", "null , s , s", "p , s , r"):
            self.bad(f"pick ( {text} )", "BadWidth", "pick")

    def test_wide(self):
        for width in range(1, 9):
            self.kind(f"wide ( s , {width} )", width)
        self.bad("wide ( s , 0 )", "BadNumber", 0)
        self.bad("wide ( s , 9 )", "BadNumber", 9)
        self.bad("wide ( r , 8 )", "BadWidth", "wide")
        self.bad("wide ( null , 8 )", "BadWidth", "wide")
        self.bad("wide ( r , 9 )", "BadNumber", 9)
        self.bad("wide ( z , 9 )", "Unknown", "z")

    def test_the_first_fault_of_several(self):
        self.bad("a + b", "Unknown", "a")
        self.bad("s + b", "Unknown", "b")
        self.bad("( s + t ) + ( s - t )", "BadWidth", "+")
        self.bad("( s * t ) == ( s - t )", "BadWidth", "*")
        self.bad("( s + q ) == ( s - t )", "BadWidth", "-")
        self.bad("pick ( a , 9 # 1 , b )", "Unknown", "a")
        self.bad("pick ( s , 9 # 1 , b )", "BadNumber", 9)
        self.bad("pick ( s , s , b )", "Unknown", "b")
        self.bad("div ( v , 0 # 9 )", "BadUse", "v")
        self.bad("div ( r , 0 # 9 )", "BadNumber", 9)
        self.bad("v [ 9 # 1 ] + z", "BadNumber", 9)
        self.bad("z [ 9 # 1 ]", "Unknown", "z")
        self.bad("s << ( t + s )", "BadWidth", "+")
        self.bad("~ ( r & r )", "BadWidth", "&")

    def test_depth(self):
        tree = name("s")
        for _ in range(57):
            tree = ("+", tree, name("q"))
        self.assertEqual(kind_of(PROGRAM, "f", tree), 3)
        self.assertEqual(error_of(kind_of, PROGRAM, "f", ("not", ("|", tree, name("t")))), ("BadWidth", "|"))


if __name__ == "__main__":
    unittest.main()
