import unittest

from helping import error_of, word
from metorshut.check import check
from metorshut.reading import read_program

HEAD = """
record box { v : 8 ; n : box ; }
record other { b : 1 ; }
external ask ( a : 2 ) : 2 needs 1#1 gives 1#1 ;
function back ( p : 2 , q : box ) : box { return q ; }
"""
BODY = """
function f ( p : 1 , q : 3 , r : box ) : 8 {
    var s : 3 ; var t : 8 ; var u : other ; var v : 4 [ 3 ] ; var x : box ; var y : 2 ;
    %s
}
"""


class Checking(unittest.TestCase):
    def good(self, text):
        self.assertIsNone(check(read_program(text)), text)

    def bad(self, text, *told):
        self.assertEqual(error_of(check, read_program(text)), told, text)

    def good_body(self, text):
        self.good(HEAD + BODY % text)

    def bad_body(self, text, *told):
        self.bad(HEAD + BODY % text, *told)


class Programs(Checking):
    def test_nothing(self):
        self.assertIsNone(check(()))

    def test_how_many_declarations(self):
        records = [f"record r{at} {{ }}" for at in range(25)]
        self.good(" ".join(records[:24]))
        self.bad(" ".join(records), "TooLarge", "program")
        self.bad(" ".join(records[:24]) + " record r1 { }", "TooLarge", "program")

    def test_names_given_twice(self):
        self.bad("record a { } record a { }", "Twice", "a")
        self.bad("record a { } function a ( ) : 1 { }", "Twice", "a")
        self.bad("record a { v : 9 ; } record b { } record c { } record b { } record a { }", "Twice", "b")
        self.bad("record a { v : 9 ; } external a ( ) : 9 needs 1#1 gives 1#1 ;", "Twice", "a")

    def test_declarations_in_order(self):
        self.bad("record a { v : 9 ; } record b { v : 0 ; }", "BadNumber", 9)
        self.bad("record b { v : 0 ; } record a { v : 9 ; }", "BadNumber", 0)
        self.bad("function f ( ) : 1 { return x ; } record a { v : 9 ; }", "Unknown", "x")


class Records(Checking):
    def test_good_ones(self):
        self.good("record a { }")
        self.good("record a { v : 1 ; w : 8 ; n : a ; m : b ; } record b { v : a ; }")

    def test_how_many_fields(self):
        fields = [f"f{at} : 1 ;" for at in range(7)]
        self.good("record a { " + " ".join(fields[:6]) + " }")
        self.bad("record a { " + " ".join(fields) + " }", "TooLarge", "a")
        self.bad("record a { f0 : 9 ; " + " ".join(fields[:6]) + " }", "TooLarge", "a")

    def test_fields(self):
        self.bad("record a { v : 1 ; v : 1 ; }", "Twice", "v")
        self.bad("record a { v : 1 ; v : 9 ; }", "Twice", "v")
        self.bad("record a { v : 9 ; v : 1 ; }", "BadNumber", 9)
        self.bad("record a { v : 0 ; }", "BadNumber", 0)
        self.bad("record a { v : b ; }", "Unknown", "b")
        self.bad("record a { v : f ; } function f ( ) : 1 { }", "BadUse", "f")
        self.bad("record a { v : e ; } external e ( ) : 1 needs 1#1 gives 1#1 ;", "BadUse", "e")
        self.bad("record a { v : b ; w : 0 ; }", "Unknown", "b")


class Externals(Checking):
    def good_one(self, text):
        self.good("external e " + text + " ;")

    def bad_one(self, text, *told):
        self.bad("record r { } external e " + text + " ;", *told)

    def test_good_ones(self):
        self.good_one("( ) : 3 needs 1#1 gives 1#1")
        self.good_one("( a : 2 , b : 2 , c : 2 ) : 1 steady needs a == b gives result == 0#1 | c < b")
        self.good_one("( a : 6 ) : 2 needs a < 4#6 gives wide ( result , 6 ) == a")

    def test_how_many_params(self):
        self.good_one("( a : 1 , b : 1 , c : 1 ) : 1 needs 1#1 gives 1#1")
        self.bad_one("( a : 1 , b : 1 , c : 1 , d : 1 ) : 1 needs 1#1 gives 1#1", "TooLarge", "e")
        self.bad_one("( a : 9 , a : 1 , c : 1 , d : 1 ) : 1 needs 1#1 gives 1#1", "TooLarge", "e")

    def test_params(self):
        self.bad_one("( a : 1 , a : 1 ) : 1 needs 1#1 gives 1#1", "Twice", "a")
        self.bad_one("( a : 1 , a : r ) : 1 needs 1#1 gives 1#1", "Twice", "a")
        self.bad_one("( result : r ) : 1 needs 1#1 gives 1#1", "BadUse", "result")
        self.bad_one("( result : 1 , result : 1 ) : 1 needs 1#1 gives 1#1", "BadUse", "result")
        self.bad_one("( a : r ) : 1 needs 1#1 gives 1#1", "BadUse", "a")
        self.bad_one("( a : zz ) : 1 needs 1#1 gives 1#1", "BadUse", "a")
        self.bad_one("( a : 0 ) : 1 needs 1#1 gives 1#1", "BadNumber", 0)
        self.bad_one("( a : 9 ) : 1 needs 1#1 gives 1#1", "BadNumber", 9)
        self.bad_one("( a : 1 , b : 9 , c : r ) : 1 needs 1#1 gives 1#1", "BadNumber", 9)

    def test_the_width_of_the_result(self):
        for width in (1, 2, 3):
            self.good_one(f"( ) : {width} needs 1#1 gives 1#1")
        for width in (0, 4, 255):
            self.bad_one(f"( a : 8 ) : {width} needs 1#1 gives 1#1", "BadNumber", width)

    def test_the_widths_of_the_params(self):
        self.good_one("( a : 3 , b : 3 ) : 1 needs 1#1 gives 1#1")
        self.bad_one("( a : 3 , b : 4 ) : 1 needs 1#1 gives 1#1", "TooWide", "e")
        self.bad_one("( a : 7 ) : 1 needs x gives 1#1", "TooWide", "e")

    def test_needs_and_gives(self):
        self.bad_one("( ) : 1 needs 1#2 gives 1#2", "BadWidth", "needs")
        self.bad_one("( ) : 1 needs 1#1 gives 1#2", "BadWidth", "gives")
        self.bad_one("( ) : 1 needs result gives 1#1", "Unknown", "result")
        self.bad_one("( ) : 2 needs 1#1 gives result", "BadWidth", "gives")
        self.good_one("( ) : 1 needs 1#1 gives result")
        self.bad_one("( a : 1 ) : 1 needs b gives c", "Unknown", "b")
        self.bad_one("( a : 1 ) : 1 needs a gives c", "Unknown", "c")
        self.bad_one("( a : 1 ) : 1 needs a + 1#2 == a gives a", "BadWidth", "+")

    def test_what_is_barred_in_them(self):
        for place in ("needs %s gives 1#1", "needs 1#1 gives %s"):
            self.bad_one("( a : 1 ) : 1 " + place % "null == null", "BadUse", "null")
            self.bad_one("( a : 1 ) : 1 " + place % "div ( x , y )", "BadUse", "div")
            self.bad_one("( a : 1 ) : 1 " + place % "~ rem ( null , y )", "BadUse", "rem")
            self.bad_one("( a : 1 ) : 1 " + place % "x + div ( a , a )", "Unknown", "x")
            self.bad_one("( a : 1 ) : 1 " + place % "a [ x ]", "BadUse", "a")
            self.bad_one("( a : 1 ) : 1 " + place % "x [ null ]", "Unknown", "x")
            self.bad_one("( a : 1 ) : 1 " + place % "a . b", "BadUse", "a")
            self.bad_one("( a : 1 ) : 1 " + place % "x . b", "Unknown", "x")

    def test_unmet(self):
        self.bad_one("( a : 2 ) : 1 needs a != 0#2 gives wide ( result , 2 ) == a", "Unmet", "e", (2,))
        self.bad_one("( ) : 1 needs 1#1 gives 0#1", "Unmet", "e", ())
        self.bad("external e ( ) : 1 needs 1#1 gives 0#1 ; record r { v : 9 ; }", "Unmet", "e", ())


class Functions(Checking):
    def test_good_ones(self):
        self.good("function f ( ) : 1 { }")
        self.good("entry function f ( ) : 8 { var a : 8 [ 8 ] ; var b : 1 [ 1 ] ; }")
        self.good("function f ( a : r ) : r { var b : r ; return a ; } record r { }")
        self.good("entry function f ( a : 8 ) : 8 { call a = f ( a ) ; }")

    def test_how_many_params(self):
        params = [f"p{at} : 1" for at in range(7)]
        self.good("entry function f ( " + " , ".join(params[:6]) + " ) : 1 { }")
        self.bad("entry function f ( " + " , ".join(params) + " ) : 1 { }", "TooLarge", "f")

    def test_how_many_vars(self):
        places = [f"var v{at} : 1 ;" for at in range(11)]
        self.good("function f ( ) : 1 { " + " ".join(places[:10]) + " }")
        self.bad("function f ( ) : 1 { " + " ".join(places) + " }", "TooLarge", "f")
        self.bad("function f ( a : 9 ) : 1 { " + " ".join(places) + " }", "TooLarge", "f")

    def test_how_many_statements(self):
        one = "raise x ; "
        self.good("function f ( ) : 1 { " + one * 40 + "}")
        self.bad("function f ( ) : 1 { " + one * 41 + "}", "TooLarge", "f")
        self.bad("function f ( a : 9 ) : zz { " + one * 41 + "}", "TooLarge", "f")

    def test_statements_at_any_depth(self):
        deep = "if 1#1 { raise x ; while 1#1 { raise x ; } } else { try { raise x ; } catch y { raise x ; raise z ; } } "
        self.good("function f ( ) : 1 { " + deep * 5 + "}")
        for more in ("raise x ;", "if 1#1 { }", "while 1#1 { }", "try { } catch x { }"):
            self.bad("function f ( ) : 1 { " + deep * 5 + more + " }", "TooLarge", "f")

    def test_params(self):
        self.bad("function f ( a : 1 , a : 1 ) : 1 { }", "Twice", "a")
        self.bad("function f ( a : 1 , a : zz ) : 1 { }", "Twice", "a")
        self.bad("function f ( a : 9 , a : 1 ) : 1 { }", "BadNumber", 9)
        self.bad("function f ( a : zz ) : 1 { }", "Unknown", "zz")
        self.bad("function f ( a : f ) : 1 { }", "BadUse", "f")
        self.bad("entry function f ( a : zz ) : 1 { }", "Unknown", "zz")
        self.bad("entry function f ( a : f ) : 1 { }", "BadUse", "f")
        self.bad("record r { } entry function f ( a : r , b : 9 ) : 1 { }", "BadUse", "a")
        self.bad("record r { } entry function f ( b : 9 , a : r ) : 1 { }", "BadNumber", 9)
        self.good("record r { } function f ( a : r ) : 1 { }")

    def test_the_result(self):
        self.bad("function f ( ) : 9 { }", "BadNumber", 9)
        self.bad("function f ( ) : zz { }", "Unknown", "zz")
        self.bad("function f ( ) : f { }", "BadUse", "f")
        self.bad("entry function f ( ) : zz { }", "Unknown", "zz")
        self.bad("record r { } entry function f ( a : 8 , b : 8 ) : r { }", "BadUse", "f")
        self.good("record r { } function f ( ) : r { }")

    def test_the_widths_of_an_entry(self):
        self.good("entry function f ( a : 4 , b : 4 ) : 8 { }")
        self.bad("entry function f ( a : 8 , b : 1 ) : 8 { var a : 8 ; }", "TooWide", "f")
        self.bad("entry function f ( a : 8 , b : 1 ) : 9 { }", "BadNumber", 9)
        self.good("function f ( a : 8 , b : 8 ) : 8 { }")

    def test_vars(self):
        self.bad("function f ( a : 1 ) : 1 { var a : 1 ; }", "Twice", "a")
        self.bad("function f ( ) : 1 { var a : 1 ; var b : 1 ; var a : 9 ; }", "Twice", "a")
        self.bad("function f ( ) : 1 { var a : 0 ; }", "BadNumber", 0)
        self.bad("function f ( ) : 1 { var a : zz ; }", "Unknown", "zz")
        self.bad("function f ( ) : 1 { var a : f ; }", "BadUse", "f")
        self.bad("function f ( ) : 1 { var a : 9 [ 0 ] ; }", "BadNumber", 9)
        self.bad("function f ( ) : 1 { var a : 8 [ 0 ] ; }", "BadNumber", 0)
        self.bad("function f ( ) : 1 { var a : 8 [ 9 ] ; }", "BadNumber", 9)
        self.bad("function f ( ) : 1 { var a : 8 [ 9 ] ; let x = y ; }", "BadNumber", 9)
        self.good("function f ( ) : 1 { var a : 8 [ 8 ] ; }")


class Statements(Checking):
    def test_let(self):
        self.good_body("let s = q ; let v [ s ] = 3#4 ; let r . v = t ; let r = null ; let r . n = x ; let u = null ;")
        self.bad_body("let z = a ;", "Unknown", "z")
        self.bad_body("let v = a ;", "BadUse", "v")
        self.bad_body("let s = a ;", "Unknown", "a")
        self.bad_body("let v [ r ] = a ;", "BadWidth", "[")
        self.bad_body("let r . b = a ;", "Unknown", "b")
        self.bad_body("let s = t ;", "BadWidth", "let")
        self.bad_body("let s = null ;", "BadWidth", "let")
        self.bad_body("let s = r ;", "BadWidth", "let")
        self.bad_body("let r = s ;", "BadWidth", "let")
        self.bad_body("let r = u ;", "BadWidth", "let")
        self.bad_body("let r . n = u ;", "BadWidth", "let")
        self.bad_body("let v [ 0#1 ] = 1#3 ;", "BadWidth", "let")

    def test_make(self):
        self.good_body("make r = box ; make u = other ; make x = box ;")
        self.bad_body("make z = yy ;", "Unknown", "z")
        self.bad_body("make s = yy ;", "BadUse", "s")
        self.bad_body("make v = yy ;", "BadUse", "v")
        self.bad_body("make r = yy ;", "Unknown", "yy")
        self.bad_body("make r = f ;", "BadUse", "f")
        self.bad_body("make r = ask ;", "BadUse", "ask")
        self.bad_body("make r = other ;", "BadWidth", "make")

    def test_call(self):
        self.good_body("call ask ( y ) ; call y = ask ( 3#2 ) ; call back ( y , null ) ; call x = back ( y , r ) ;")
        self.good_body("call t = f ( p , q , r ) ; call f ( p , q , null ) ;")
        self.bad_body("call z = yy ( a ) ;", "Unknown", "z")
        self.bad_body("call v = yy ( a ) ;", "BadUse", "v")
        self.bad_body("call y = yy ( a ) ;", "Unknown", "yy")
        self.bad_body("call y = box ( a ) ;", "BadUse", "box")
        self.bad_body("call y = ask ( a , b ) ;", "Unknown", "a")
        self.bad_body("call y = ask ( y , b ) ;", "Unknown", "b")
        self.bad_body("call y = ask ( ) ;", "BadWidth", "call")
        self.bad_body("call y = ask ( y , y ) ;", "BadWidth", "call")
        self.bad_body("call y = ask ( s ) ;", "BadWidth", "call")
        self.bad_body("call y = ask ( null ) ;", "BadWidth", "call")
        self.bad_body("call s = ask ( y ) ;", "BadWidth", "call")
        self.bad_body("call r = ask ( y ) ;", "BadWidth", "call")
        self.bad_body("call u = back ( y , r ) ;", "BadWidth", "call")
        self.bad_body("call y = back ( y , r ) ;", "BadWidth", "call")
        self.bad_body("call r = back ( y , u ) ;", "BadWidth", "call")
        self.bad_body("call r = back ( y , y ) ;", "BadWidth", "call")
        self.bad_body("call s = ask ( y + s ) ;", "BadWidth", "+")

    def test_tests(self):
        for head in ("if", "while"):
            self.good_body(head + " p { }")
            self.good_body(head + " r == x { let s = q ; }")
            self.bad_body(head + " s { let z = a ; }", "BadWidth", head)
            self.bad_body(head + " r { }", "BadWidth", head)
            self.bad_body(head + " null { }", "BadWidth", head)
            self.bad_body(head + " z { }", "Unknown", "z")
            self.bad_body(head + " p { let z = a ; }", "Unknown", "z")
        self.bad_body("if p { } else { let z = s ; }", "Unknown", "z")
        self.bad_body("if p { let z = s ; } else { let a = s ; }", "Unknown", "z")
        self.good_body("assert p ; assert s == q ;")
        self.bad_body("assert s ;", "BadWidth", "assert")
        self.bad_body("assert null ;", "BadWidth", "assert")
        self.bad_body("assert z ;", "Unknown", "z")

    def test_return(self):
        self.good_body("return t ;")
        self.bad_body("return s ;", "BadWidth", "return")
        self.bad_body("return null ;", "BadWidth", "return")
        self.bad_body("return z ;", "Unknown", "z")
        head = "record r { } record s { } function f ( a : r , b : s ) : r { return "
        self.good(head + "a ; }")
        self.good(head + "null ; }")
        self.bad(head + "b ; }", "BadWidth", "return")
        self.bad(head + "1#1 ; }", "BadWidth", "return")

    def test_raise(self):
        self.good_body("raise zz ; raise index ; raise f ; raise box ;")

    def test_try(self):
        self.good_body("try { let s = q ; } catch x { let s = q ; } catch y { }")
        self.good_body("try { try { } catch x { } } catch x { try { } catch x { } }")
        self.bad_body("try { let z = a ; } catch x { } catch x { }", "Unknown", "z")
        self.bad_body("try { } catch x { let z = a ; } catch x { }", "Unknown", "z")
        self.bad_body("try { } catch x { } catch y { } catch x { let z = a ; }", "Twice", "x")
        self.bad_body("try { } catch x { } catch y { let z = a ; } catch x { }", "Unknown", "z")

    def test_in_order(self):
        self.bad_body("let s = t ; let z = s ;", "BadWidth", "let")
        self.bad_body("if p { while p { let s = t ; } } let z = s ;", "BadWidth", "let")


class TakenAsTheyStand(Checking):
    """What a declaration tells that is found wrong only later."""

    def test_fields(self):
        head = "function f ( a : r ) : 1 { var b : 8 ; %s } record r { v : 9 ; v : 8 ; w : zz ; }"
        self.bad(head % "let a . v = b ;", "BadWidth", "let")
        self.bad(head % "let a . v = a . v ;", "BadNumber", 9)
        self.bad(head % "let a . w = null ;", "BadNumber", 9)
        self.bad(head % "let a . w = b ;", "BadWidth", "let")
        self.bad(head % "let a . x = b ;", "Unknown", "x")

    def test_params_and_results(self):
        head = "function f ( a : r ) : 1 { var b : 8 ; %s } record r { } "
        later = "function g ( p : 9 , p : 8 ) : zz { }"
        self.bad(head % "call g ( b , b ) ;" + later, "BadWidth", "call")
        self.bad(head % "call b = g ( 1#1 , b ) ;" + later, "BadWidth", "call")
        outer = "external e ( p : r ) : 9 needs 1#1 gives 1#1 ;"
        self.bad(head % "call e ( a ) ;" + outer, "BadUse", "p")
        self.bad(head % "call e ( null ) ;" + outer, "BadUse", "p")
        self.bad(head % "call e ( b ) ;" + outer, "BadWidth", "call")
        self.bad(head % "call b = e ( a ) ;" + outer, "BadWidth", "call")


class Trees(Checking):
    """What no text can say."""

    def test_numbers(self):
        for kind in (-1, 256):
            self.assertEqual(error_of(check, (("record", "r", (("v", kind),)),)), ("BadNumber", kind))
        body = (("return", word(300, 8)),)
        self.assertEqual(error_of(check, (("function", "f", (), 8, 0, (), body),)), ("BadNumber", 300))

    def test_depth(self):
        body = ()
        for _ in range(27):
            body = (("while", word(1, 1), body),)
        self.assertIsNone(check((("function", "f", (), 8, 0, (), body),)))

    def test_nothing_changes(self):
        program = read_program(HEAD + BODY % "let s = q ;")
        before = repr(program)
        self.assertIsNone(check(program))
        self.assertIsNone(check(program))
        self.assertEqual(repr(program), before)


if __name__ == "__main__":
    unittest.main()
