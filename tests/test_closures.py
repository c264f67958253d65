import unittest

from metorshut.closures import closure_of, is_open, is_pure, looks_of
from metorshut.reading import read_program

HEAD = """
record box { v : 8 ; n : box ; }
external ask ( a : 2 ) : 2 needs 1#1 gives 1#1 ;
function two ( p : 8 , q : 8 ) : 8 { return div ( p , q ) ; }
function f ( p : 1 , q : 8 ) : 8 {
    var s : 8 ; var t : 2 ; var v : 8 [ 3 ] ; var x : box ;
    %s
}
"""


class Looks(unittest.TestCase):
    def looks(self, text, *wanted):
        self.assertEqual(looks_of(read_program(HEAD % text), "f"), wanted, text)

    def test_none(self):
        self.looks("")
        self.looks("let s = q + ~ s ; let s = pick ( p , s , q ) ; let p = x == null ; let s = wide ( t , 8 ) ;")
        self.looks("make x = box ; raise y ; call f ( p , 1#8 ) ; call t = ask ( 3#2 ) ; return s ;")
        self.looks("try { } catch y { }")

    def test_exprs(self):
        self.looks("return v [ s ] ;", "index")
        self.looks("return x . v ;", "nothing")
        self.looks("return div ( s , q ) ;", "zero")
        self.looks("return rem ( s , q ) ;", "zero")
        self.looks("return v [ div ( s , q ) ] ;", "zero", "index")
        self.looks("return div ( x . v , v [ s ] ) ;", "nothing", "index", "zero")
        self.looks("return x . v + div ( v [ s ] , s ) - v [ x . v ] ;", "nothing", "index", "zero", "nothing", "index")
        self.looks("return pick ( s < v [ s ] , x . v , div ( s , s ) ) ;", "index", "nothing", "zero")
        self.looks("return wide ( ~ v [ s ] << - x . v , 8 ) ;", "index", "nothing")
        self.looks("let p = x . n == null ;", "nothing")

    def test_places(self):
        self.looks("let v [ s ] = q ;", "index")
        self.looks("let x . v = v [ 0#1 ] ;", "nothing", "index")
        self.looks("let v [ x . v ] = div ( s , q ) ;", "nothing", "index", "zero")

    def test_calls(self):
        self.looks("call two ( x . v , div ( s , v [ s ] ) ) ;", "nothing", "index", "zero")
        self.looks("call t = ask ( wide ( x . v , 2 ) ) ;", "nothing")

    def test_own_looks(self):
        self.looks("if p { }", None)
        self.looks("while p { }", None)
        self.looks("assert p ;", "claim")
        self.looks("if s < v [ s ] { }", "index", None)
        self.looks("while s < x . v { }", "nothing", None)
        self.looks("assert div ( s , q ) == s ;", "zero", "claim")

    def test_in_blocks(self):
        self.looks(
            "if s == x . v { assert p ; while p { let s = v [ s ] ; } } else { return div ( s , s ) ; } assert p ;",
            "nothing", None, "claim", None, "index", "zero", "claim",
        )
        self.looks(
            "try { assert p ; } catch a { let s = v [ s ] ; } catch b { let s = x . v ; } if p { }",
            "claim", "index", "nothing", None,
        )

    def test_others(self):
        program = read_program(HEAD % "")
        self.assertEqual(looks_of(program, "ask"), ("duty",))
        self.assertEqual(looks_of(program, "two"), ("zero",))


class Closures(unittest.TestCase):
    PROGRAM = read_program("""
        function lone ( ) : 1 { }
        function self ( ) : 1 { call self ( ) ; }
        record used { v : inner ; } record inner { }
        function far ( a : inner ) : 1 { var b : inner ; var u : used ; try { } catch lone { make u = used ; } }
        external ask ( ) : 1 needs 1#1 gives 1#1 ;
        function round ( ) : 1 { if 1#1 { call turn ( ) ; } }
        function turn ( ) : 1 { while 1#1 { call ask ( ) ; } call round ( ) ; }
        entry function top ( ) : 1 { call turn ( ) ; try { call far ( null ) ; } catch far { } }
    """)

    def closure(self, name, *wanted):
        self.assertEqual(closure_of(self.PROGRAM, name), wanted)

    def test_closures(self):
        self.closure("lone", "lone")
        self.closure("self", "self")
        self.closure("far", "used", "far")
        self.closure("round", "ask", "round", "turn")
        self.closure("turn", "ask", "round", "turn")
        self.closure("top", "used", "far", "ask", "round", "turn", "top")


class OpenAndPure(unittest.TestCase):
    PROGRAM = read_program("""
        record box { }
        external ask ( ) : 1 needs 1#1 gives 1#1 ;
        function words ( a : 8 , b : 1 ) : 8 { var c : 8 ; var d : 4 [ 3 ] ; }
        function none ( ) : 1 { }
        function param ( a : 8 , b : box ) : 8 { }
        function back ( a : 8 ) : box { }
        function place ( a : 8 ) : 8 { var b : box ; }
        function makes ( a : 8 ) : 8 { var b : box ; make b = box ; }
        function asks ( ) : 1 { call ask ( ) ; }
        function deep ( ) : 1 { if 1#1 { } else { call asks ( ) ; } }
        function far ( ) : 1 { call place ( 1#8 ) ; }
        function calls ( ) : 1 { call words ( 1#8 , 1#1 ) ; call none ( ) ; call calls ( ) ; }
        function one ( ) : 1 { call two ( ) ; }
        function two ( ) : 1 { call one ( ) ; call param ( 1#8 , null ) ; }
        entry function top ( a : 3 ) : 1 { call calls ( ) ; }
    """)

    def test_open(self):
        shut = {"param", "back"}
        for one in self.PROGRAM:
            if one[0] == "function":
                self.assertIs(is_open(self.PROGRAM, one[1]), one[1] not in shut, one[1])

    def test_pure(self):
        pure = {"words", "none", "calls", "top"}
        for one in self.PROGRAM:
            if one[0] == "function":
                self.assertIs(is_pure(self.PROGRAM, one[1]), one[1] in pure, one[1])


if __name__ == "__main__":
    unittest.main()
