import random
import unittest

from earley import WORDS, bad_token
from helping import error_of
from making import made_program
from metorshut.reading import read_program
from metorshut.tokens import tokens_of
from metorshut.writing import write_program

WHOLE = (
    "record box { v : 8 ; n : box ; } record nil { } "
    "external ask ( a : 1 , b : 2 ) : 2 steady needs a == b gives ~ result ; "
    "external it ( ) : 1 needs 1#1 gives 1#1 ; "
    "entry function f ( a : 1 ) : 8 { var c : 8 ; var d : 4 [ 3 ] ; var e : box ; "
    "let c = a + b * - c ; let d [ a ] = pick ( a , b , c ) ; let e . v = wide ( a , 8 ) ; make e = box ; "
    "call f ( a , 1#1 ) ; call c = it ( ) ; if a < b & c == d { } if a { raise x ; } else { return null ; } "
    "while ( a ) << b { assert div ( a , b ) ; } try { } catch x { } catch y { raise z ; } return rem ( a , b ) ; } "
    "function g ( ) : box { }"
)
SIGNS = "{ } ( ) [ ] , ; : . # = == != < <= << >> ~ - + * & | ^".split()
NOWHERE = ["X", "aB", "abcdefghi", "256", "00", "01", "1a", "!", ">", "_", "@", '"', "/"]
PUT_IN = [*WORDS, *SIGNS, *NOWHERE, "x", "y9", "0", "7", "255"]


def at_of(tokens):
    told = error_of(read_program, " ".join(tokens))
    if told is None:
        return None
    assert told[0] == "BadText"
    return told[1]


class Told(unittest.TestCase):
    def bad(self, text, at):
        self.assertEqual(error_of(read_program, text), ("BadText", at), text)

    def in_body(self, text, at):
        """The number counts from the first token of the body on."""
        head = "function f ( ) : 8 { "
        self.bad(head + text, at + 7)

    def test_no_tokens(self):
        self.bad("", 0)
        self.bad(" \n ", 0)

    def test_torn(self):
        self.bad("record", 1)
        self.bad("record box {", 3)
        self.bad("record box { v :", 5)
        self.bad("entry", 1)
        self.bad("external ask ( ) : 2", 6)
        self.bad("record box { } function f", 6)
        self.in_body("", 0)
        self.in_body("return a", 2)

    def test_other_ends(self):
        self.bad("record box { } }", 4)
        self.bad("record box { } ;", 4)
        self.bad("x", 0)
        self.bad("entry record box { }", 1)
        self.bad("record box { v : 8 }", 6)
        self.bad("record Box { }", 1)
        self.bad("record abcdefghi { }", 1)
        self.bad("record record { }", 1)

    def test_second_comparison(self):
        self.in_body("return a == b == c ; }", 4)
        self.in_body("return a < b + c <= d ; }", 6)
        self.in_body("return ( a != b << c == d ) ; }", 7)
        self.in_body("return a & b == c == d ; }", 6)
        self.in_body("return a [ b < c < d ] ; }", 6)
        self.in_body("call f ( a == b , c == d == a ) ; }", 10)
        self.in_body("return a == b & c == d ; return a == b == c ; }", 13)

    def test_else_and_catch(self):
        self.in_body("else { } }", 0)
        self.in_body("while a { } else { } }", 4)
        self.in_body("if a { } else { } else { } }", 7)
        self.in_body("if a { } raise x ; else { } }", 7)
        self.in_body("try { } }", 3)
        self.in_body("try { } raise x ; }", 3)
        self.in_body("try { } catch { } }", 4)
        self.in_body("if a { } catch x { } }", 4)
        self.in_body("catch x { } }", 0)

    def test_var_behind_statements(self):
        self.in_body("var a : 8 ; raise x ; var b : 8 ; }", 8)
        self.in_body("if a { var b : 8 ; } }", 3)
        self.in_body("var a : box [ 3 ] ; }", 4)
        self.in_body("var a : 8 [ 3 ] [ 3 ] ; }", 7)
        self.in_body("var a : 8 [ b ] ; }", 5)

    def test_places_and_calls(self):
        self.in_body("let a . b . c = d ; }", 4)
        self.in_body("let a + b = c ; }", 2)
        self.in_body("let ( a ) = b ; }", 1)
        self.in_body("let a [ b ] [ c ] = d ; }", 5)
        self.in_body("call a . b = f ( ) ; }", 2)
        self.in_body("call a = b = f ( ) ; }", 4)
        self.in_body("call f ( a , ) ; }", 5)
        self.in_body("call f ( , a ) ; }", 3)
        self.in_body("make a . b = box ; }", 2)
        self.in_body("make a = null ; }", 3)

    def test_exprs(self):
        self.in_body("return ; }", 1)
        self.in_body("return a b ; }", 2)
        self.in_body("return a not b ; }", 2)
        self.in_body("return 1 ; }", 2)
        self.in_body("return 1 # a ; }", 3)
        self.in_body("return a ~ b ; }", 2)
        self.in_body("return + a ; }", 1)
        self.in_body("return a > b ; }", 2)
        self.in_body("return a ! b ; }", 2)
        self.in_body("return pick ( a , b ) ; }", 6)
        self.in_body("return div ( a , b , c ) ; }", 6)
        self.in_body("return wide ( a , b ) ; }", 5)
        self.in_body("return div ; }", 2)
        self.in_body("return ( ) ; }", 2)
        self.in_body("return f ( a ) ; }", 2)

    def test_numbers(self):
        self.in_body("return 256#8 ; }", 1)
        self.in_body("return 00#8 ; }", 1)
        self.in_body("return 1#01 ; }", 3)
        self.in_body("return 1a#8 ; }", 1)
        self.bad("external ask ( ) : r needs a gives a ;", 5)
        self.bad("function f ( ) : 999 { }", 5)

    def test_parts_of_externals(self):
        self.bad("external ask ( ) : 2 gives 1#1 ;", 6)
        self.bad("external ask ( ) : 2 needs 1#1 ;", 10)
        self.bad("external ask ( ) : 2 needs 1#1 steady gives 1#1 ;", 10)
        self.bad("external ask ( a ) : 2 needs a gives a ;", 4)
        self.bad("external ask ( a : 1 , ) : 2 needs a gives a ;", 7)


class AgainstTheGrammar(unittest.TestCase):
    def same(self, tokens):
        self.assertEqual(at_of(tokens), bad_token(tokens), " ".join(tokens))

    def test_torn_behind_each_token(self):
        tokens = list(tokens_of(WHOLE))
        self.assertIsNone(at_of(tokens))
        for many in range(len(tokens)):
            self.same(tokens[:many])

    def test_each_token_left_out_or_doubled(self):
        tokens = list(tokens_of(WHOLE))
        for at in range(len(tokens)):
            self.same(tokens[:at] + tokens[at + 1:])
            self.same(tokens[:at] + [tokens[at]] + tokens[at:])
            if at > 0:
                self.same(tokens[:at - 1] + [tokens[at], tokens[at - 1]] + tokens[at + 1:])

    def test_each_token_that_fits_nowhere(self):
        tokens = list(tokens_of(WHOLE))
        for at in range(len(tokens)):
            for token in NOWHERE:
                self.assertEqual(at_of(tokens[:at] + [token] + tokens[at + 1:]), at)
                self.assertEqual(at_of(tokens[:at] + [token] + tokens[at:]), at)

    def test_tokens_put_in_and_exchanged(self):
        dice = random.Random(7)
        tokens = list(tokens_of(WHOLE))
        for at in range(len(tokens)):
            for token in dice.sample(PUT_IN, 5):
                self.same(tokens[:at] + [token] + tokens[at:])
                self.same(tokens[:at] + [token] + tokens[at + 1:])

    def test_random_programs(self):
        for seed in range(250):
            dice = random.Random(seed)
            tokens = list(tokens_of(write_program(made_program(seed))))
            at = dice.randrange(len(tokens))
            self.same(tokens[:at] + [dice.choice(PUT_IN)] + tokens[at + dice.randrange(2):])
            self.same(tokens[:at] + tokens[at + 1 + dice.randrange(3):])


class Limits(unittest.TestCase):
    def test_torn_in_open_brackets(self):
        for bracket, each in (("( ", 1), ("a [ ", 2), ("~ ( ", 2), ("a | a ^ a & a == a << a + a * ( ", 15)):
            text = "function f ( ) : 8 { return " + bracket * 19
            self.assertEqual(error_of(read_program, text), ("BadText", 8 + 19 * each))

    def test_torn_behind_many_signs(self):
        text = "function f ( ) : 8 { return " + ("- " * 20 + "( ") * 19
        self.assertEqual(error_of(read_program, text), ("BadText", 8 + 19 * 21))

    def test_torn_in_blocks(self):
        for block, each in (("if a { ", 3), ("while a { ", 3), ("try { ", 2), ("try { } catch a { ", 6)):
            text = "function f ( ) : 8 { " + block * 19
            self.assertEqual(error_of(read_program, text), ("BadText", 7 + 19 * each))
            self.assertEqual(error_of(read_program, text + "else"), ("BadText", 7 + 19 * each))

    def test_long_texts(self):
        text = "function f ( ) : 8 { " + "raise x ; " * 1660
        self.assertEqual(error_of(read_program, text), ("BadText", 7 + 3 * 1660))
        text = "function f ( ) : 8 { return " + "a + " * 2400
        self.assertEqual(error_of(read_program, text), ("BadText", 8 + 2 * 2400))


if __name__ == "__main__":
    unittest.main()
