"""The mutants of functions."""

import unittest

from helping import program_of, read_body, read_expr
from making import made_program
from metorshut.check import check
from metorshut.mutating import mutants_of, with_mutant
from metorshut.programs import declared
from metorshut.writing import write_expr
from rich import rich_program

HEAD = "function f ( x : 3 , y : 3 , p : 1 , b : box ) : 3 { var a : 3 [ 4 ] ; "
BOX = "record box { v : 3 ; n : box ; } "
ASK = "external ask ( a : 3 , c : 3 ) : 3 needs 1#1 gives 1#1 ; "


class MutantTest(unittest.TestCase):
    def bodies(self, body):
        """The bodies of all mutants."""
        program = program_of(BOX + ASK + HEAD + body + " }")
        function = declared(program, "f")
        found = mutants_of(program, "f")
        self.assertIsInstance(found, tuple)
        for number, mutant in enumerate(found):
            self.assertEqual(mutant[:6], function[:6])
            other = with_mutant(program, "f", number)
            check(other)
            self.assertEqual(other, tuple(mutant if one[1] == "f" else one for one in program))
        return [mutant[6] for mutant in found]

    def told(self, body, *others):
        self.assertEqual(self.bodies(body), [read_body(other) for other in others], body)


class Exprs(MutantTest):
    def changed(self, expr, *others):
        """The changes of an expr that is returned, or looked at where its width is 1."""
        self.told(f"return {expr} ;", *[f"return {other} ;" for other in others])

    def test_own_changes(self):
        for op, other in (("+", "-"), ("-", "+"), ("*", "+"), ("&", "|"), ("|", "&"), ("^", "|"), ("<<", ">>"),
                          (">>", "<<")):
            self.changed(f"x {op} y", f"x {other} y")
        self.changed("div ( x , y )", "rem ( x , y )")
        self.changed("rem ( x , y )", "div ( x , y )")
        self.changed("pick ( p , x , y )", "pick ( p , y , x )")
        for op, other in (("<", "<="), ("<=", "<"), ("==", "!="), ("!=", "==")):
            self.changed(f"wide ( x {op} y , 3 )", f"wide ( x {other} y , 3 )")
        self.changed("5#3", "6#3")
        self.changed("7#3", "0#3")
        self.changed("wide ( 1#1 , 3 )", "wide ( 0#1 , 3 )")

    def test_what_has_none(self):
        for expr in ("x", "b . v", "~ x", "- x", "wide ( p , 3 )", "~ - ~ x", "b . v"):
            self.changed(expr)
        self.told("let b = null ;", "")
        self.changed("a [ x ]")

    def test_the_order(self):
        self.changed("x + 1#3 * ( y - 2#3 )", "x - 1#3 * ( y - 2#3 )", "x + ( 1#3 + ( y - 2#3 ) )",
                     "x + 2#3 * ( y - 2#3 )", "x + 1#3 * ( y + 2#3 )", "x + 1#3 * ( y - 3#3 )")
        self.changed("pick ( x < 1#3 , x + y , a [ y & 2#3 ] )", "pick ( x < 1#3 , a [ y & 2#3 ] , x + y )",
                     "pick ( x <= 1#3 , x + y , a [ y & 2#3 ] )", "pick ( x < 2#3 , x + y , a [ y & 2#3 ] )",
                     "pick ( x < 1#3 , x - y , a [ y & 2#3 ] )", "pick ( x < 1#3 , x + y , a [ y | 2#3 ] )",
                     "pick ( x < 1#3 , x + y , a [ y & 3#3 ] )")
        self.changed("~ ( x ^ y )", "~ ( x | y )")
        self.changed("- wide ( x << 2#2 , 3 )", "- wide ( x >> 2#2 , 3 )", "- wide ( x << 3#2 , 3 )")
        self.changed("div ( x | 1#3 , rem ( y , 2#3 ) )", "rem ( x | 1#3 , rem ( y , 2#3 ) )",
                     "div ( x & 1#3 , rem ( y , 2#3 ) )", "div ( x | 2#3 , rem ( y , 2#3 ) )",
                     "div ( x | 1#3 , div ( y , 2#3 ) )", "div ( x | 1#3 , rem ( y , 3#3 ) )")

    def test_references(self):
        self.told("if b == null { }", "if ~ ( b == null ) { }", "if b != null { }")


class Statements(MutantTest):
    def test_left_out(self):
        self.told("let x = y ;", "")
        self.told("make b = box ;", "")
        self.told("call x = f ( x , y , p , b ) ;", "")
        self.told("call ask ( x , y ) ;", "")
        self.told("raise ouch ;", "")
        self.told("return x ;")
        self.told("if p { }", "if ~ p { }")
        self.told("while p { }", "while ~ p { }")
        self.told("assert p ;", "", "assert ~ p ;")
        self.told("try { } catch ouch { }")
        self.told("")

    def test_let(self):
        self.told("let a [ x + 1#3 ] = y - 2#3 ;", "", "let a [ x - 1#3 ] = y - 2#3 ;", "let a [ x + 2#3 ] = y - 2#3 ;",
                  "let a [ x + 1#3 ] = y + 2#3 ;", "let a [ x + 1#3 ] = y - 3#3 ;")
        self.told("let b . v = 4#3 ;", "", "let b . v = 5#3 ;")
        self.told("let a [ 0#2 ] = x ;", "", "let a [ 1#2 ] = x ;")

    def test_call(self):
        self.told("call x = ask ( x + y , 3#3 ) ;", "", "call x = ask ( x - y , 3#3 ) ;", "call x = ask ( x + y , 4#3 ) ;")

    def test_assert(self):
        self.told("assert x < 3#3 ;", "", "assert ~ ( x < 3#3 ) ;", "assert x <= 3#3 ;", "assert x < 4#3 ;")

    def test_nested(self):
        self.told(
            "if x < y { let x = 1#3 ; raise a ; } else { while p { let y = 2#3 ; } } return 3#3 ;",
            "if ~ ( x < y ) { let x = 1#3 ; raise a ; } else { while p { let y = 2#3 ; } } return 3#3 ;",
            "if x <= y { let x = 1#3 ; raise a ; } else { while p { let y = 2#3 ; } } return 3#3 ;",
            "if x < y { raise a ; } else { while p { let y = 2#3 ; } } return 3#3 ;",
            "if x < y { let x = 2#3 ; raise a ; } else { while p { let y = 2#3 ; } } return 3#3 ;",
            "if x < y { let x = 1#3 ; } else { while p { let y = 2#3 ; } } return 3#3 ;",
            "if x < y { let x = 1#3 ; raise a ; } else { while ~ p { let y = 2#3 ; } } return 3#3 ;",
            "if x < y { let x = 1#3 ; raise a ; } else { while p { } } return 3#3 ;",
            "if x < y { let x = 1#3 ; raise a ; } else { while p { let y = 3#3 ; } } return 3#3 ;",
            "if x < y { let x = 1#3 ; raise a ; } else { while p { let y = 2#3 ; } } return 4#3 ;",
        )

    def test_tries(self):
        self.told(
            "try { raise a ; } catch a { let x = y ; } catch c { try { } catch a { raise c ; } }",
            "try { } catch a { let x = y ; } catch c { try { } catch a { raise c ; } }",
            "try { raise a ; } catch a { } catch c { try { } catch a { raise c ; } }",
            "try { raise a ; } catch a { let x = y ; } catch c { try { } catch a { } }",
        )

    def test_equal_statements(self):
        # The second one is left out from its own place.
        self.told("raise a ; return x ; raise a ;", "return x ; raise a ;", "raise a ; return x ;")
        self.told("let x = 1#3 ; let x = 1#3 ;", "let x = 1#3 ;", "let x = 2#3 ; let x = 1#3 ;", "let x = 1#3 ;",
                  "let x = 1#3 ; let x = 2#3 ;")


class Programs(unittest.TestCase):
    def test_drawn_programs(self):
        for seed in range(150):
            program = (rich_program if seed % 2 else made_program)(seed)
            for one in program:
                if one[0] != "function":
                    continue
                for number, mutant in enumerate(mutants_of(program, one[1])):
                    other = with_mutant(program, one[1], number)
                    check(other)
                    self.assertEqual(declared(other, one[1]), mutant)
                    self.assertEqual([two for two in other if two[1] != one[1]],
                                     [two for two in program if two[1] != one[1]])
                    self.assertEqual([two[1] for two in other], [two[1] for two in program])

    def test_nothing_is_changed(self):
        program = program_of("entry function main ( x : 1 ) : 1 { let x = x + 1#1 ; }")
        copy = program_of("entry function main ( x : 1 ) : 1 { let x = x + 1#1 ; }")
        mutants = mutants_of(program, "main")
        self.assertEqual(len(mutants), 3)
        self.assertEqual(program, copy)
        self.assertEqual(mutants_of(program, "main"), mutants)
        self.assertEqual(write_expr(mutants[1][6][0][2]), "x - 1 # 1")
        self.assertEqual(read_expr("x - 1#1"), mutants[1][6][0][2])


if __name__ == "__main__":
    unittest.main()
