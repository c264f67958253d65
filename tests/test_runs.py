"""Runs by the tree and by the graphs, which tell the same."""

import random
import unittest

from helping import error_of
from making import made_program
from metorshut.bounds import BOUNDS
from metorshut.check import check
from metorshut.errors import MakerError
from metorshut.reading import read_program
from metorshut.runs import Machine
from metorshut.treeruns import run_tree
from plainrun import plain_report


class RunTest(unittest.TestCase):
    def told(self, text, args=(), answers=(), bounds=BOUNDS, unit="main"):
        """The report of a run, or what is raised, which is the same both ways."""
        program = read_program(text)
        check(program)
        told = []
        for action in (run_tree, lambda program, *rest: Machine(program).run(*rest)):
            error = error_of(action, program, unit, args, answers, bounds)
            told.append(error or action(program, unit, args, answers, bounds))
        self.assertEqual(told[0], told[1], text)
        return told[0]

    def outcome(self, text, *rest, **more):
        return self.told(text, *rest, **more)[3]

    def main(self, body, *rest, **more):
        """The outcome of a body without parameters."""
        return self.outcome("entry function main ( ) : 8 { " + body + " }", *rest, **more)


ASK = "external ask ( a : 2 ) : 2 needs a != 0#2 gives result != a ; "
SAME = "external same ( a : 2 ) : 1 steady needs 1#1 gives 1#1 ; "
BOX = "record box { v : 8 ; n : box ; } "
LOOP = "var s : 8 ; while s < %d#8 { let s = s + 1#8 ; }"


class References(RunTest):
    def test_comparisons_are_words_of_width_1(self):
        head = BOX + "entry function main ( ) : 8 { var b : box ; var c : box ; make b = box ; "
        for expr, told in (("~ ( b == b )", 0), ("~ ( b == c )", 1), ("- ( c == null )", 1), ("( b != c ) + ( c != b )", 0),
                           ("( b == b ) << 1#1", 0), ("( b != c ) * 1#1", 1)):
            self.assertEqual(self.outcome(head + f"return wide ( {expr} , 8 ) ; }}"), ("returns", told), expr)
            self.assertEqual(self.outcome(head + f"if {expr} {{ return 1#8 ; }} }}"), ("returns", told), expr)


class Outcomes(RunTest):
    def test_returns(self):
        self.assertEqual(self.main(""), ("returns", 0))
        self.assertEqual(self.main("return 7#8 ;"), ("returns", 7))
        self.assertEqual(self.main("return 7#8 ; return 8#8 ;"), ("returns", 7))
        self.assertEqual(self.main("if 1#1 { return 7#8 ; } return 8#8 ;"), ("returns", 7))
        self.assertEqual(self.main("while 1#1 { return 7#8 ; }"), ("returns", 7))
        self.assertEqual(self.main("try { return 7#8 ; } catch a { return 8#8 ; }"), ("returns", 7))

    def test_raises(self):
        self.assertEqual(self.main("raise ouch ;"), ("raises", "ouch"))
        self.assertEqual(self.main("raise index ;"), ("raises", "index"))
        self.assertEqual(self.main("var a : 8 [ 3 ] ; return a [ 3#8 ] ;"), ("raises", "index"))
        self.assertEqual(self.main("var a : 8 [ 3 ] ; let a [ 3#2 ] = 1#8 ;"), ("raises", "index"))
        self.assertEqual(self.main("return div ( 1#8 , 0#8 ) ;"), ("raises", "zero"))
        self.assertEqual(self.main("return rem ( 1#8 , 0#8 ) ;"), ("raises", "zero"))
        self.assertEqual(self.main("assert 0#1 ;"), ("raises", "claim"))
        self.assertEqual(self.outcome(BOX + "entry function main ( ) : 8 { var b : box ; return b . v ; }"),
                         ("raises", "nothing"))
        self.assertEqual(self.outcome(BOX + "entry function main ( ) : 8 { var b : box ; let b . v = 1#8 ; }"),
                         ("raises", "nothing"))
        self.assertEqual(self.outcome(ASK + "entry function main ( ) : 8 { call ask ( 0#2 ) ; }"), ("raises", "duty"))

    def test_endless(self):
        self.assertEqual(self.main("while 1#1 { }"), ("endless",))

    def test_asks(self):
        self.assertEqual(self.outcome(ASK + "entry function main ( ) : 8 { call ask ( 3#2 ) ; }"), ("asks", "ask", (3,)))

    def test_cut(self):
        self.assertEqual(self.main(LOOP % 24), ("cut", "steps"))
        self.assertEqual(self.main("call main ( ) ;"), ("cut", "depth"))

    def test_arguments(self):
        text = "entry function main ( a : 3 , b : 5 ) : 8 { return wide ( a , 8 ) << 5#3 | wide ( b , 8 ) ; }"
        self.assertEqual(self.outcome(text, (7, 1)), ("returns", 225))
        self.assertEqual(self.outcome(text, (0, 31)), ("returns", 31))

    def test_vars_begin_with_nought(self):
        text = BOX + """entry function main ( ) : 8 { var a : 8 ; var b : 4 [ 3 ] ; var c : box ;
            if a == 0#8 & b [ 2#2 ] == 0#4 & c == null { return 1#8 ; } }"""
        self.assertEqual(self.outcome(text), ("returns", 1))


class Reports(RunTest):
    def test_ways(self):
        text = "entry function main ( a : 2 ) : 8 { var v : 8 [ 2 ] ; if v [ a ] == 0#8 { assert a == 1#2 ; } }"
        self.assertEqual(
            self.told(text, (1,)),
            ("run", (("main", 0, 1), ("main", 1, 1), ("main", 2, 1)), (), ("returns", 0), ("main",)),
        )
        self.assertEqual(
            self.told(text, (0,)),
            ("run", (("main", 0, 1), ("main", 1, 1), ("main", 2, 0)), (), ("raises", "claim"), ("main",)),
        )
        self.assertEqual(self.told(text, (2,)), ("run", (("main", 0, 0),), (), ("raises", "index"), ("main",)))

    def test_all_operands_are_evaluated(self):
        text = "entry function main ( a : 8 ) : 8 { return pick ( 1#1 , 5#8 , div ( 1#8 , a ) ) ; }"
        self.assertEqual(self.told(text, (0,))[1:4], ((("main", 0, 0),), (), ("raises", "zero")))
        self.assertEqual(self.told(text, (1,))[1:4], ((("main", 0, 1),), (), ("returns", 5)))

    def test_looks_of_a_place_come_first(self):
        text = BOX + """entry function main ( a : 2 ) : 8 { var b : box ; var v : 8 [ 2 ] ;
            let v [ a ] = b . v ; }"""
        self.assertEqual(self.told(text, (2,))[1], (("main", 0, 0),))
        self.assertEqual(self.told(text, (1,))[1], (("main", 0, 1), ("main", 1, 0)))

    def test_asked(self):
        text = ASK + "entry function main ( a : 2 ) : 2 { call a = ask ( a ) ; call a = ask ( a ) ; return a ; }"
        first = (("ask", 0, 1),)
        self.assertEqual(self.told(text, (1,)), ("run", first, (), ("asks", "ask", (1,)), ("ask", "main")))
        self.assertEqual(
            self.told(text, (1,), (2,)), ("run", first * 2, (("ask", (1,)),), ("asks", "ask", (2,)), ("ask", "main"))
        )
        self.assertEqual(
            self.told(text, (1,), (2, 3)),
            ("run", first * 2, (("ask", (1,)), ("ask", (2,))), ("returns", 3), ("ask", "main")),
        )
        self.assertEqual(
            self.told(text, (1,), (0,)),
            ("run", (*first, ("ask", 0, 0)), (("ask", (1,)),), ("raises", "duty"), ("ask", "main")),
        )


class Bounds(RunTest):
    def at_each(self, text, at, many, *told, answers=()):
        """Cut one below what is needed, not cut at it and above it."""
        bounds = (32, 8, 8, 12)
        name = ("steps", "depth", "objects", "bits")[at]
        for bound in (many - 1, many, many + 1):
            outcome = self.outcome(text, (), answers, bounds[:at] + (bound,) + bounds[at + 1:])
            self.assertEqual(outcome, ("cut", name) if bound < many else told, (text, bound))

    def test_steps(self):
        main = "entry function main ( ) : 8 { "
        self.at_each(main + LOOP % 3 + " }", 0, 4, "returns", 0)
        self.at_each(main + "assert 1#1 ; assert 0#1 ; }", 0, 2, "raises", "claim")
        self.at_each("function g ( ) : 8 { return 3#8 ; } " + main + "var a : 8 ; call g ( ) ; call a = g ( ) ; return a ; }",
                     0, 2, "returns", 3)
        self.at_each(BOX + main + "var b : box ; make b = box ; make b = box ; make b = box ; return b . v ; }",
                     0, 4, "returns", 0)
        self.at_each(ASK + main + "call ask ( 1#2 ) ; assert 1#1 ; return 2#8 ; }", 0, 2, "asks", "ask", (1,))

    def test_steps_of_an_answer(self):
        text = ASK + "entry function main ( ) : 8 { call ask ( 1#2 ) ; assert 1#1 ; return 2#8 ; }"
        for steps, told in ((1, "left over"), (2, ("cut", "steps")), (3, ("returns", 2)), (4, ("returns", 2))):
            got = self.told(text, (), (2,), (steps, 4, 4, 8))
            self.assertEqual(got, ("BadInput", "answers") if told == "left over" else (*got[:3], told, got[4]))

    def test_the_entry_is_no_step(self):
        self.assertEqual(self.main("return 1#8 ;", bounds=(1, 1, 0, 0)), ("returns", 1))

    def test_depth(self):
        text = """function a ( ) : 8 { call b ( ) ; } function b ( ) : 8 { } function c ( ) : 8 { raise x ; }
            entry function main ( ) : 8 { call b ( ) ; try { call c ( ) ; } catch x { } call a ( ) ; return 1#8 ; }"""
        self.at_each(text, 1, 3, "returns", 1)

    def test_objects(self):
        text = BOX + """function g ( ) : box { var b : box ; make b = box ; return b ; }
            entry function main ( ) : 8 { var b : box ; call b = g ( ) ; call g ( ) ; make b = box ; return 1#8 ; }"""
        self.at_each(text, 2, 3, "returns", 1)
        self.assertEqual(self.outcome(text, bounds=(32, 8, 0, 0)), ("cut", "objects"))

    def test_bits(self):
        text = ASK + SAME + """entry function main ( ) : 8 { var b : 1 ;
            call ask ( 1#2 ) ; call b = same ( 0#2 ) ; call ask ( 1#2 ) ; return 1#8 ; }"""
        self.at_each(text, 3, 5, "asks", "ask", (1,), answers=(2, 1))
        for bits, told in ((5, ("returns", 1)), (6, ("returns", 1))):
            self.assertEqual(self.outcome(text, (), (2, 1, 3), (32, 8, 8, bits)), told)
        self.assertEqual(self.outcome(text, (), (), (32, 8, 8, 1)), ("cut", "bits"))
        self.assertEqual(self.outcome(text, (), (2,), (32, 8, 8, 2)), ("cut", "bits"))

    def test_bits_of_parameters(self):
        text = SAME + "entry function main ( a : 2 , b : 1 ) : 2 { call b = same ( a ) ; return a ; }"
        self.assertEqual(self.outcome(text, (1, 1), (), (9, 1, 0, 3)), ("cut", "bits"))
        self.assertEqual(self.outcome(text, (1, 1), (), (9, 1, 0, 4)), ("asks", "same", (1,)))
        self.assertEqual(self.told(text, (1, 1), (), (9, 1, 0, 2)), ("TooWide", "main"))

    def test_bits_of_an_ask_whose_needs_do_not_hold(self):
        text = ASK + "entry function main ( ) : 8 { call ask ( 0#2 ) ; }"
        self.assertEqual(self.outcome(text, bounds=(1, 1, 0, 0)), ("raises", "duty"))

    def test_steps_are_due_first(self):
        self.assertEqual(self.main("assert 1#1 ; call main ( ) ;", bounds=(1, 1, 0, 0)), ("cut", "steps"))
        self.assertEqual(self.main("assert 1#1 ; call main ( ) ;", bounds=(2, 1, 0, 0)), ("cut", "depth"))
        text = BOX + "entry function main ( ) : 8 { var b : box ; assert 1#1 ; make b = box ; }"
        self.assertEqual(self.outcome(text, bounds=(1, 1, 0, 0)), ("cut", "steps"))
        self.assertEqual(self.outcome(text, bounds=(2, 1, 0, 0)), ("cut", "objects"))
        text = ASK + "entry function main ( ) : 8 { call ask ( 1#2 ) ; }"
        self.assertEqual(self.told(text, bounds=(1, 1, 0, 0))[1:4], ((("ask", 0, 1),), (), ("cut", "steps")))
        self.assertEqual(self.told(text, bounds=(2, 1, 0, 0))[1:4], ((("ask", 0, 1),), (), ("cut", "bits")))
        self.assertEqual(self.told(text, bounds=(2, 1, 0, 2))[1:4], ((("ask", 0, 1),), (), ("asks", "ask", (1,))))

    def test_what_is_cut_can_not_be_caught(self):
        text = "try { call main ( ) ; } catch depth { return 1#8 ; } catch steps { return 2#8 ; } catch cut { }"
        self.assertEqual(self.main(text), ("cut", "depth"))


class Endless(RunTest):
    def test_at_the_second_time(self):
        told = self.told("entry function main ( ) : 8 { while 1#1 { } }", bounds=(1, 1, 0, 0))
        self.assertEqual(told[1:4], ((("main", 0, 1),), (), ("endless",)))

    def test_ahead_of_the_bound_of_steps(self):
        self.assertEqual(self.main("while 1#1 { assert 1#1 ; }", bounds=(2, 1, 0, 0)), ("endless",))
        self.assertEqual(self.main("while 1#1 { assert 1#1 ; }", bounds=(1, 1, 0, 0)), ("cut", "steps"))

    def test_after_some_turns(self):
        body = "var s : 2 ; var t : 1 ; while 1#1 { let s = s + 2#2 ; let t = ~ t ; }"
        told = self.told("entry function main ( ) : 8 { " + body + " }")
        self.assertEqual(told[1:4], ((("main", 0, 1),) * 2, (), ("endless",)))
        self.assertEqual(self.main("var s : 8 ; while 1#1 { let s = s | s + 1#8 ; }"), ("endless",))

    def test_an_array_is_compared_too(self):
        text = """entry function main ( ) : 8 { var a : 1 [ 3 ] ; var s : 2 ;
            while 1#1 { let s = 0#2 ; let a [ s + 1#2 ] = ~ a [ 1#2 ] ; } }"""
        self.assertEqual(self.told(text)[1].count(("main", 0, 1)), 2)

    def test_a_loop_that_only_looks_endless(self):
        text = "entry function main ( ) : 8 { var a : 2 [ 2 ] ; while a [ 1#1 ] != 3#2 { let a [ 1#1 ] = a [ 1#1 ] + 1#2 ; } }"
        self.assertEqual(self.outcome(text), ("returns", 0))

    def test_objects_in_between(self):
        text = BOX + "entry function main ( ) : 8 { var b : box ; while 1#1 { make b = box ; let b = null ; } }"
        self.assertEqual(self.outcome(text), ("cut", "objects"))
        self.assertEqual(self.outcome(text, bounds=(4, 1, 8, 0)), ("cut", "steps"))

    def test_fields_are_compared_too(self):
        text = BOX + """function turn ( b : box ) : 8 { %s }
            entry function main ( ) : 8 { var b : box ; make b = box ;
            while 1#1 { call turn ( b ) ; } }"""
        self.assertEqual(self.outcome(text % "let b . v = b . v + 1#8 ;"), ("cut", "steps"))
        self.assertEqual(self.outcome(text % "let b . v = b . v + 64#8 ;"), ("endless",))
        self.assertEqual(self.outcome(text % "if b . n == null { let b . n = b ; }"), ("endless",))

    def test_answers_in_between(self):
        text = SAME + "entry function main ( ) : 8 { var s : 1 ; while 1#1 { call s = same ( 0#2 ) ; } }"
        self.assertEqual(self.outcome(text, (), (0,)), ("asks", "same", (0,)))
        self.assertEqual(self.outcome(text, (), (0, 0, 0)), ("asks", "same", (0,)))
        self.assertEqual(self.outcome(text, (), (0,) * 8), ("cut", "steps"))

    def test_the_same_call(self):
        text = """function down ( a : 2 ) : 8 { while a == 2#2 { return 1#8 ; } if a < 2#2 { call down ( a + 1#2 ) ; }
            return 2#8 ; }
            entry function main ( a : 2 ) : 8 { var b : 8 ; call b = down ( a ) ; call b = down ( a ) ; return b ; }"""
        self.assertEqual(self.outcome(text, (2,)), ("returns", 1))
        self.assertEqual(self.outcome(text, (0,)), ("returns", 2))
        text = """function turn ( a : 2 ) : 8 { while a != 0#2 { call turn ( a ) ; } }
            entry function main ( ) : 8 { call turn ( 1#2 ) ; }"""
        self.assertEqual(self.outcome(text), ("cut", "depth"))

    def test_the_same_while(self):
        text = """entry function main ( a : 1 ) : 8 { var s : 2 ; while s < 2#2 {
            while a { let a = 0#1 ; } let s = s + 1#2 ; } return wide ( s , 8 ) ; }"""
        self.assertEqual(self.outcome(text, (1,)), ("returns", 2))
        self.assertEqual(self.outcome(text, (0,)), ("returns", 2))

    def test_a_while_within_a_while_from_the_beginning_of_the_call(self):
        text = """entry function main ( ) : 8 { var s : 1 ; while 1#1 { while s { let s = 0#1 ; } let s = 1#1 ; } }"""
        told = self.told(text)
        self.assertEqual(told[3], ("endless",))
        self.assertEqual([way[1:] for way in told[1]], [(0, 1), (1, 0), (0, 1), (1, 1)])

    def test_in_a_call(self):
        text = "function g ( ) : 8 { while 1#1 { } } entry function main ( ) : 8 { try { call g ( ) ; } catch endless { } }"
        self.assertEqual(self.outcome(text), ("endless",))


class Faults(RunTest):
    def test_caught_where_they_are_raised(self):
        for name, fault in (
            ("index", "let s = v [ 3#8 ] ;"), ("zero", "let s = div ( s , s ) ;"), ("claim", "assert 0#1 ;"),
            ("nothing", "let s = b . v ;"), ("duty", "call ask ( 0#2 ) ;"), ("ouch", "raise ouch ;"),
        ):
            head = BOX + ASK + """function g ( s : 8 ) : 8 { var v : 8 [ 3 ] ; var b : box ; %s }
                entry function main ( ) : 8 { var v : 8 [ 3 ] ; var b : box ; var s : 8 ; %s return 1#8 ; }"""
            self.assertEqual(self.outcome(head % ("", fault)), ("raises", name))
            for text in (fault, "call g ( s ) ;", "if 1#1 { call g ( s ) ; }"):
                caught = head % (fault, "try { " + text + " return 9#8 ; } catch %s { return 2#8 ; }")
                self.assertEqual(self.outcome(caught % name), ("returns", 2), text)
                self.assertEqual(self.outcome(caught % "other"), ("raises", name), text)

    def test_behind_a_catch_it_goes_on(self):
        self.assertEqual(self.main("try { raise a ; } catch a { } return 3#8 ;"), ("returns", 3))
        self.assertEqual(self.main("var s : 8 ; try { let s = 3#8 ; raise a ; } catch a { let s = s + 1#8 ; } return s ;"),
                         ("returns", 4))

    def test_the_innermost_catch(self):
        body = "try { try { raise a ; } catch %s { return 1#8 ; } } catch a { return 2#8 ; }"
        self.assertEqual(self.main(body % "a"), ("returns", 1))
        self.assertEqual(self.main(body % "b"), ("returns", 2))

    def test_raised_in_a_catch(self):
        self.assertEqual(self.main("try { raise a ; } catch a { raise b ; } catch b { return 1#8 ; }"), ("raises", "b"))
        body = "try { try { raise a ; } catch a { raise a ; } } catch a { return 2#8 ; }"
        self.assertEqual(self.main(body), ("returns", 2))

    def test_out_of_several_calls(self):
        text = """function c ( ) : 8 { raise x ; } function b ( ) : 8 { try { call c ( ) ; } catch y { } return 7#8 ; }
            function a ( ) : 8 { call b ( ) ; return 8#8 ; }
            entry function main ( ) : 8 { var s : 8 ; let s = 5#8 ; try { call s = a ( ) ; } catch x { } return s ; }"""
        told = self.told(text)
        self.assertEqual(told[3:], (("returns", 5), ("a", "b", "c", "main")))

    def test_a_loop_goes_on_behind_a_fault(self):
        text = """entry function main ( ) : 8 { var s : 8 ; while s < 3#8 {
            try { let s = s + 1#8 ; raise x ; } catch x { } } return s ; }"""
        self.assertEqual(self.outcome(text), ("returns", 3))

    def test_a_try_that_is_left_by_a_loop(self):
        body = "var s : 1 ; while ~ s { try { let s = 1#1 ; } catch x { return 1#8 ; } } raise x ;"
        self.assertEqual(self.main(body), ("raises", "x"))

    def test_a_store_that_is_not_done(self):
        text = "entry function main ( ) : 8 { var s : 8 ; try { let s = div ( 1#8 , s ) ; } catch zero { } return s ; }"
        self.assertEqual(self.outcome(text), ("returns", 0))


class Objects(RunTest):
    def test_one_object_by_two_names(self):
        text = BOX + """entry function main ( ) : 8 { var a : box ; var b : box ; make a = box ; let b = a ;
            let b . v = 5#8 ; let a . n = b ; if a . n == b { return a . v ; } }"""
        self.assertEqual(self.outcome(text), ("returns", 5))

    def test_two_objects(self):
        text = BOX + """entry function main ( ) : 8 { var a : box ; var b : box ; make a = box ; make b = box ;
            let b . v = 5#8 ; if a == b { return 9#8 ; } if a != b { return a . v ; } }"""
        self.assertEqual(self.outcome(text), ("returns", 0))

    def test_null(self):
        text = BOX + """entry function main ( ) : 8 { var a : box ; var b : box ;
            if a == b & a == null & null == null & ~ ( a != null ) { make a = box ; }
            if a != null & a . n == null & a != b { let a = null ; } return wide ( a == null , 8 ) ; }"""
        self.assertEqual(self.outcome(text), ("returns", 1))

    def test_in_calls(self):
        text = BOX + """function set ( b : box , v : 8 ) : box { let b . v = v ; let b = null ; }
            function make1 ( ) : box { var b : box ; make b = box ; return b ; }
            entry function main ( ) : 8 { var a : box ; var c : box ; call a = make1 ( ) ;
            call c = set ( a , 6#8 ) ; if c == null { return a . v ; } }"""
        self.assertEqual(self.outcome(text), ("returns", 6))

    def test_first_fields(self):
        text = BOX + """entry function main ( ) : 8 { var a : box ; make a = box ; let a . v = 9#8 ; make a = box ;
            if a . n == null { return a . v ; } return 1#8 ; }"""
        self.assertEqual(self.outcome(text), ("returns", 0))

    def test_it_refers_to_another_one_behind_a_make(self):
        text = BOX + """entry function main ( ) : 8 { var a : box ; var b : box ; make a = box ; let b = a ;
            make a = box ; return wide ( a == b , 8 ) ; }"""
        self.assertEqual(self.outcome(text), ("returns", 0))


class Calls(RunTest):
    def test_values(self):
        text = """function add ( a : 8 , b : 8 ) : 8 { let a = a + b ; return a ; } function none ( ) : 8 { }
            entry function main ( a : 8 ) : 8 { var b : 8 ; call b = add ( a , 1#8 ) ; call add ( a , a ) ;
            call a = add ( a , b ) ; call b = none ( ) ; return a + b ; }"""
        self.assertEqual(self.outcome(text, (5,)), ("returns", 11))

    def test_recursion(self):
        text = """function sum ( n : 8 ) : 8 { var r : 8 ; if n == 0#8 { return 0#8 ; } call r = sum ( n - 1#8 ) ;
            return r + n ; } entry function main ( n : 8 ) : 8 { var r : 8 ; call r = sum ( n ) ; return r ; }"""
        self.assertEqual(self.outcome(text, (2,)), ("returns", 3))
        self.assertEqual(self.outcome(text, (3,)), ("cut", "depth"))
        self.assertEqual(self.outcome(text, (6,), (), (32, 8, 0, 8)), ("returns", 21))
        self.assertEqual(self.outcome(text, (7,), (), (32, 8, 0, 8)), ("cut", "depth"))

    def test_an_entry_that_calls_itself_steps(self):
        text = "entry function main ( n : 2 ) : 2 { if n != 0#2 { call n = main ( n - 1#2 ) ; } return n ; }"
        self.assertEqual(self.outcome(text, (2,), (), (5, 8, 0, 8)), ("returns", 0))
        self.assertEqual(self.outcome(text, (2,), (), (4, 8, 0, 8)), ("cut", "steps"))

    def test_null_at_the_end_of_a_body(self):
        text = BOX + """function g ( ) : box { } entry function main ( ) : 8 { var b : box ; make b = box ;
            call b = g ( ) ; return wide ( b == null , 8 ) ; }"""
        self.assertEqual(self.outcome(text), ("returns", 1))

    def test_a_unit_that_is_no_entry(self):
        text = "function g ( a : 3 ) : 3 { return a + 1#3 ; }"
        self.assertEqual(self.told(text, (7,), unit="g"), ("run", (), (), ("returns", 0), ("g",)))


class Met(RunTest):
    HEAD = BOX + ASK + "function g ( a : 8 ) : 8 { } "

    def met(self, body, *answers, bounds=BOUNDS):
        return self.told(self.HEAD + "entry function main ( ) : 8 { var b : box ; " + body + " }", (), answers, bounds)[4]

    def test_what_it_comes_to(self):
        self.assertEqual(self.met(""), ("main",))
        self.assertEqual(self.met("make b = box ;"), ("box", "main"))
        self.assertEqual(self.met("call g ( 1#8 ) ;"), ("g", "main"))
        self.assertEqual(self.met("call ask ( 1#2 ) ;"), ("ask", "main"))
        self.assertEqual(self.met("return 1#8 ; call g ( 1#8 ) ;"), ("main",))
        self.assertEqual(self.met("if 0#1 { call g ( 1#8 ) ; } else { make b = box ; }"), ("box", "main"))

    def test_behind_the_looks_of_the_args(self):
        self.assertEqual(self.met("call g ( b . v ) ;"), ("main",))
        self.assertEqual(self.met("call ask ( wide ( b . v , 2 ) ) ;"), ("main",))

    def test_where_it_is_cut(self):
        self.assertEqual(self.met("assert 1#1 ; call g ( 1#8 ) ;", bounds=(1, 8, 8, 8)), ("g", "main"))
        self.assertEqual(self.met("call g ( 1#8 ) ;", bounds=(9, 1, 8, 8)), ("g", "main"))
        self.assertEqual(self.met("assert 1#1 ; make b = box ;", bounds=(1, 8, 8, 8)), ("box", "main"))
        self.assertEqual(self.met("make b = box ;", bounds=(1, 8, 0, 8)), ("box", "main"))
        self.assertEqual(self.met("assert 1#1 ; call ask ( 1#2 ) ;", bounds=(1, 8, 8, 8)), ("ask", "main"))
        self.assertEqual(self.met("call ask ( 1#2 ) ;", bounds=(1, 8, 8, 8)), ("ask", "main"))
        self.assertEqual(self.met("call ask ( 1#2 ) ;", bounds=(9, 8, 8, 0)), ("ask", "main"))
        self.assertEqual(self.met("make b = box ; call g ( b . v ) ;", bounds=(1, 8, 8, 8)), ("box", "main"))

    def test_where_the_needs_do_not_hold(self):
        self.assertEqual(self.met("call ask ( 0#2 ) ;"), ("ask", "main"))


class Answers(RunTest):
    TEXT = ASK + "entry function main ( a : 2 ) : 2 { var b : 2 ; call b = ask ( a ) ; call a = ask ( a ) ; return a + b ; }"
    STEADY = SAME + """entry function main ( a : 2 ) : 8 { var b : 1 ;
        call b = same ( a ) ; call b = same ( a + 1#2 ) ; call b = same ( a ) ; return wide ( b , 8 ) ; }"""

    def test_they_lack(self):
        self.assertEqual(self.outcome(self.TEXT, (1,), ()), ("asks", "ask", (1,)))
        self.assertEqual(self.outcome(self.TEXT, (1,), (2,)), ("asks", "ask", (1,)))
        self.assertEqual(self.outcome(self.TEXT, (1,), (2, 3)), ("returns", 1))

    def test_they_are_not_let(self):
        for answers in ((1,), (4,), (-1,), (2, 1), (2, 4), (1, 2), (True,), (None,), ("2",)):
            self.assertEqual(self.told(self.TEXT, (1,), answers), ("BadInput", "answers"), answers)

    def test_they_are_left_over(self):
        for answers in ((2, 3, 3), (2, 3, 0), (2, 3, 9)):
            self.assertEqual(self.told(self.TEXT, (1,), answers), ("BadInput", "answers"), answers)
        self.assertEqual(self.told(self.TEXT, (0,), (2,)), ("BadInput", "answers"))
        self.assertEqual(self.told(self.TEXT, (1,), (2,), (2, 1, 0, 8))[3], ("cut", "steps"))
        self.assertEqual(self.told(self.TEXT, (1,), (2, 3), (2, 1, 0, 8)), ("BadInput", "answers"))

    def test_steady_ones(self):
        self.assertEqual(self.outcome(self.STEADY, (1,), (1, 0, 1)), ("returns", 1))
        self.assertEqual(self.outcome(self.STEADY, (1,), (0, 1, 0)), ("returns", 0))
        self.assertEqual(self.told(self.STEADY, (1,), (1, 0, 0)), ("BadInput", "answers"))
        self.assertEqual(self.told(self.STEADY.replace("steady ", ""), (1,), (1, 0, 0))[3], ("returns", 0))

    def test_two_steady_ones_are_not_mixed(self):
        text = SAME + SAME.replace("same", "two") + """entry function main ( ) : 1 { var b : 1 ;
            call b = same ( 1#2 ) ; call b = two ( 1#2 ) ; call b = same ( 1#2 ) ; return b ; }"""
        self.assertEqual(self.outcome(text, (), (1, 0, 1)), ("returns", 1))
        self.assertEqual(self.told(text, (), (1, 0, 0)), ("BadInput", "answers"))


class Wrong(RunTest):
    TEXT = ASK + "entry function main ( a : 3 , b : 1 ) : 8 { call ask ( 1#2 ) ; }"

    def test_args(self):
        for args in ((), (1,), (1, 1, 1), (8, 0), (-1, 0), (0, 2), (0, -1), (True, 0), (0, False), (None, 0), ("1", 0)):
            self.assertEqual(self.told(self.TEXT, args), ("BadInput", "args"), args)
        self.assertEqual(self.outcome(self.TEXT, (7, 1)), ("asks", "ask", (1,)))

    def test_too_wide(self):
        self.assertEqual(self.told(self.TEXT, (1, 1), (), (24, 4, 4, 3)), ("TooWide", "main"))
        self.assertEqual(self.outcome(self.TEXT, (1, 1), (), (24, 4, 4, 4)), ("cut", "bits"))

    def test_in_their_order(self):
        bad = (33, 4, 4, 3)
        self.assertEqual(self.told(self.TEXT, (9, 9), (9,), bad), ("BadBounds",))
        self.assertEqual(self.told(self.TEXT, (9, 9), (9,), (24, 4, 4, 3)), ("TooWide", "main"))
        self.assertEqual(self.told(self.TEXT, (9, 9), (9,), (24, 4, 4, 8)), ("BadInput", "args"))
        self.assertEqual(self.told(self.TEXT, (1, 1), (9,), (24, 4, 4, 8)), ("BadInput", "answers"))

    def test_bounds(self):
        for bounds in (None, True, (24, 4, 4), [24, 4, 4, 8], (24, 4, 4, True), (0, 1, 0, 0), "abcd"):
            self.assertEqual(self.told(self.TEXT, (1, 1), (), bounds), ("BadBounds",), bounds)

    def test_bounds_by_name(self):
        program = read_program(self.TEXT)
        for action in (lambda **more: run_tree(program, "main", (1, 1), (), **more),
                       lambda **more: Machine(program).run("main", (1, 1), (), **more)):
            self.assertEqual(action(), action(bounds=BOUNDS))
            self.assertEqual(action(bounds=(1, 1, 0, 4))[3], ("cut", "steps"))


class Deep(RunTest):
    def test_blocks_in_calls(self):
        """As many calls as can be, each in as many blocks as can be."""
        body = (("call", None, "main", ()),)
        for _ in range(13):
            body = (("try", body, (("x", ()),)),)
        for _ in range(13):
            body = (("if", ("word", 1, 1), body, ()),)
        program = (("function", "main", (), 8, 1, (), body),)
        for action in (run_tree, lambda program, *rest: Machine(program).run(*rest)):
            self.assertEqual(action(program, "main", (), (), (32, 8, 0, 0))[3], ("cut", "steps"))

    def test_exprs(self):
        tree = ("name", "a")
        for _ in range(50):
            tree = ("+", tree, ("name", "a"))
        program = (("function", "main", (("a", 8),), 8, 1, (), (("return", tree),)),)
        for action in (run_tree, lambda program, *rest: Machine(program).run(*rest)):
            self.assertEqual(action(program, "main", (1,), ())[3], ("returns", 51))


class Random(unittest.TestCase):
    def told(self, action):
        try:
            return action()
        except MakerError as error:
            return " ".join([type(error).__name__, *[str(part) for part in vars(error).values()]])

    def test_three_runners_tell_the_same(self):
        for seed in range(500):
            program = made_program(seed)
            dice = random.Random(seed)
            machine = Machine(program)
            for unit in program:
                if unit[0] == "function" and unit[4] == 1:
                    for _ in range(6):
                        self.compare(program, machine, unit, dice)

    def compare(self, program, machine, unit, dice):
        bounds = (dice.choice((1, 3, 6, 12, 24, 32)), dice.randrange(1, 9), dice.randrange(5), dice.choice((3, 6, 12)))
        args = tuple(dice.randrange(1 << width) for _, width in unit[2])
        answers = ()
        while True:
            tree = self.told(lambda: run_tree(program, unit[1], args, answers, bounds))
            graph = self.told(lambda: machine.run(unit[1], args, answers, bounds))
            plain = plain_report(program, unit[1], args, answers, bounds)
            self.assertEqual(tree, graph)
            self.assertEqual(tree, plain.replace("TooWide", "TooWide " + unit[1]) if isinstance(plain, str) else plain)
            if isinstance(tree, str) or tree[3][0] != "asks":
                return
            answers = (*answers, dice.randrange(4))


if __name__ == "__main__":
    unittest.main()
