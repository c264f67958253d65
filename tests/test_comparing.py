"""Programs compared at their entries."""

import random
import unittest

from changing import changed
from drawing import drawn_units
from helping import error_of, program_of
from metorshut.bounds import BOUNDS
from metorshut.comparing import compare, compared, tells_apart
from metorshut.programs import declared
from plainwalk import Walker

E = "external e ( a : 2 ) : 2 needs 1#1 gives 1#1 ; "


class Drawn(unittest.TestCase):
    def test_against_walks_over_all_inputs(self):
        seen = {}
        for seed, program, unit, bounds in drawn_units(0, 260, (4, 5, 6)):
            dice = random.Random(seed)
            for _ in range(2):
                other = changed(dice, program, unit)
                walker = Walker(program, other, unit, bounds)
                told = walker.answer()
                self.assertEqual(compare(program, other, unit, bounds), told, (seed, unit))
                seen[told[0]] = seen.get(told[0], 0) + 1
                if told[0] == "parts":
                    for word, tried, _ in walker.ends():
                        self.assertIs(tells_apart(program, other, unit, tried, bounds), word == "parted")
        self.assertGreater(min(seen[word] for word in ("parts", "open", "alike")), 40)

    def test_few_bits_and_many(self):
        for seed, program, unit, bounds in drawn_units(0, 160, (0, 9, 12)):
            if bounds[3] > 0 and seed > 40 or sum(kind for _, kind in declared(program, unit)[2]) > 5:
                continue
            other = changed(random.Random(seed), program, unit)
            told = Walker(program, other, unit, bounds).answer()
            self.assertEqual(compare(program, other, unit, bounds), told, (seed, unit))

    def test_answers_left_over_and_lacking(self):
        parted = 0
        for seed, program, unit, bounds in drawn_units(0, 200, (4, 5)):
            other = changed(random.Random(seed + 1), program, unit)
            walker = Walker(program, other, unit, bounds)
            for word, (args, answers), _ in list(walker.ends())[:20]:
                tries = [answers[:many] for many in range(len(answers))]
                tries += [(*answers, 0), (*answers, 9), (*answers[:-1], 3, 1)]
                for tried in tries:
                    told = walker.parts((args, tried))
                    self.assertIs(tells_apart(program, other, unit, (args, tried), bounds), told)
                    parted += told
        self.assertGreater(parted, 60)


class Comparing(unittest.TestCase):
    def told(self, first, second, answer, bounds=BOUNDS, unit="main"):
        self.assertEqual(compare(program_of(first), program_of(second), unit, bounds), answer)

    def main(self, body, params="x : 2", ahead=""):
        return ahead + f"entry function main ( {params} ) : 2 {{ {body} }}"

    def test_plain_ones(self):
        first = self.main("if x < 2#2 { return x ; } raise ouch ;")
        self.told(first, first, ("alike",))
        self.told(first, self.main("if 2#2 <= x { raise ouch ; } return x ;"), ("alike",))
        self.told(first, self.main("if x < 2#2 { return x ; } raise bad ;"), ("parts", ((2,), ())))
        self.told(first, self.main("if x < 2#2 { return x * x ; } return x ;"), ("parts", ((2,), ())))
        self.told(first, self.main("return x ;"), ("parts", ((2,), ())))
        self.told(self.main("return 0#2 ;"), self.main(""), ("alike",))

    def test_words_and_inputs(self):
        two = "x : 2 , y : 2"
        self.told(self.main("return x ;"), self.main("return 0#2 ;"), ("parts", ((1,), ())))
        self.told(self.main("return 0#2 ;"), self.main("return x ;"), ("parts", ((1,), ())))
        self.told(self.main("return x ;", two), self.main("return y ;", two), ("parts", ((0, 1), ())))
        self.told(self.main("return x & 2#2 ;", two), self.main("return y & 2#2 ;", two), ("parts", ((0, 2), ())))
        self.told(self.main("if x == y { return x ; }", two), self.main("if x == y { return y ; }", two), ("alike",))

    def test_no_parameters(self):
        self.told(self.main("", ""), self.main("return 1#2 ;", ""), ("parts", ((), ())))
        self.told(self.main("", ""), self.main("return 0#2 ;", ""), ("alike",))

    def test_endless_ones(self):
        first = self.main("while x == 3#2 { }")
        self.told(first, self.main("while x == 3#2 { let x = x ; }"), ("alike",))
        self.told(first, self.main("if x == 3#2 { raise ouch ; }"), ("parts", ((3,), ())))

    def test_a_parted_walk_goes_ahead_of_an_open_one(self):
        first = self.main("if x == 0#2 { call main ( x ) ; }")
        self.told(first, first, ("open", "depth", ((0,), ())))
        self.told(first, self.main("if x == 0#2 { call main ( x ) ; } return x >> 1#1 ;"), ("parts", ((2,), ())))

    def test_both_cut(self):
        # The bound is that of the first program.
        deep = self.main("call main ( x ) ;")
        long = self.main("while x == x { let x = x + 1#2 ; }")
        self.told(deep, long, ("open", "depth", ((0,), ())), (3, 2, 4, 8))
        self.told(long, deep, ("open", "steps", ((0,), ())), (3, 2, 4, 8))

    def test_one_cut(self):
        deep = self.main("if x != 0#2 { call main ( x - 1#2 ) ; } return 1#2 ;")
        flat = self.main("if x != 0#2 { } return 1#2 ;")
        self.told(deep, flat, ("open", "depth", ((2,), ())), (24, 2, 4, 8))
        self.told(flat, deep, ("open", "depth", ((2,), ())), (24, 2, 4, 8))
        self.told(flat, deep, ("alike",))
        raising = self.main("if x != 0#2 { raise ouch ; } return 1#2 ;")
        self.told(deep, raising, ("open", "depth", ((1,), ())), (24, 1, 4, 8))

    def test_answers_that_only_one_program_lets(self):
        body = "var y : 2 ; call y = e ( x ) ; return y ;"
        first = self.main(body, ahead=E)
        less = E.replace("gives 1#1", "gives result < 2#2")
        self.told(first, self.main(body, ahead=less), ("alike",))
        third = "var y : 2 ; call y = e ( x ) ; if 2#2 <= y { raise bad ; } return y ;"
        self.told(first, self.main(third, ahead=less), ("alike",))
        self.told(first, self.main(third, ahead=E), ("parts", ((0,), (2,))))
        self.told(self.main(body, ahead=less), self.main(third, ahead=E), ("alike",))

    def test_no_answer_is_let_in_both(self):
        one, two = E.replace("gives 1#1", "gives result < a"), E.replace("gives 1#1", "gives a <= result")
        one = one.replace("needs 1#1", "needs a != 0#2")
        body = "call x = e ( x ) ; return "
        self.told(self.main(body + "x ;", ahead=one), self.main(body + "x + 1#2 ;", ahead=two),
                  ("parts", ((0,), ())))
        two = two.replace("needs 1#1", "needs a != 0#2")
        self.told(self.main(body + "x ;", ahead=one), self.main(body + "x + 1#2 ;", ahead=two), ("alike",))

    def test_steady_in_one_program_only(self):
        body = "var y : 2 ; call y = e ( 1#2 ) ; call x = e ( 1#2 ) ; return "
        still = E.replace(": 2 needs", ": 2 steady needs")
        same = self.main(body + "x - y ;", ahead=still)
        self.told(same, self.main(body + "0#2 ;", ahead=E), ("alike",))
        self.told(self.main(body + "0#2 ;", ahead=E), same, ("alike",))
        loose = self.main(body + "x - y ;", ahead=E)
        self.told(loose, self.main(body + "0#2 ;", ahead=E), ("parts", ((0,), (0, 1))))

    def test_asks_that_differ(self):
        other = "external f ( a : 2 ) : 2 needs 1#1 gives 1#1 ; "
        first = self.main("call e ( x ) ;", ahead=E + other)
        self.told(first, self.main("call f ( x ) ;", ahead=E + other), ("parts", ((0,), ())))
        self.told(first, self.main("call e ( x & 1#2 ) ;", ahead=E + other), ("parts", ((2,), ())))
        self.told(first, self.main("if x != 3#2 { call e ( x ) ; }", ahead=E + other), ("parts", ((3,), ())))
        self.told(first, self.main("call e ( x ) ; if x == 1#2 { call f ( x ) ; }", ahead=E + other),
                  ("parts", ((1,), (0,))))

    def test_externals_of_other_widths(self):
        wide = "external e ( a : 3 ) : 3 needs 1#1 gives 1#1 ; "
        first = self.main("call e ( x ) ; call e ( 1#2 ) ;", ahead=E)
        self.told(first, self.main("call e ( wide ( x , 3 ) ) ; call e ( 1#3 ) ;", ahead=wide), ("alike",))
        self.told(first, self.main("call e ( wide ( x , 3 ) ) ; call e ( 5#3 ) ;", ahead=wide), ("parts", ((0,), (0,))))
        # The answers so far are wider in one program: its bits cut.
        second = self.main("call e ( wide ( x , 3 ) ) ; call e ( 1#3 ) ;", ahead=wide)
        self.told(first, second, ("open", "bits", ((0,), (0,))), (24, 4, 4, 6))
        self.told(second, first, ("open", "bits", ((0,), (0,))), (24, 4, 4, 6))
        high = wide.replace("gives 1#1", "gives 4#3 <= result")
        self.told(first, self.main("call e ( wide ( x , 3 ) ) ; raise bad ;", ahead=high), ("alike",))
        # Answers that are too wide for one program are not let in both.
        ones = [self.main(f"var y : {width} ; call y = e ( 1#{width} ) ; if {test} {{ raise bad ; }}", ahead=outer)
                for width, test, outer in ((3, "4#3 <= y", wide), (2, "y < y", E), (3, "y == 3#3", wide))]
        self.told(ones[0], ones[1], ("alike",))
        self.told(ones[1], ones[0], ("alike",))
        self.told(ones[1], ones[2], ("parts", ((0,), (3,))))
        self.told(ones[2], ones[1], ("parts", ((0,), (3,))))
        none = "external e ( ) : 2 needs 1#1 gives 1#1 ; "
        self.told(first, self.main("call e ( ) ; call e ( ) ;", ahead=none), ("parts", ((0,), ())))

    def test_needs_that_differ(self):
        some = E.replace("needs 1#1", "needs a != 2#2")
        self.told(self.main("call e ( x ) ;", ahead=E), self.main("call e ( x ) ;", ahead=some), ("parts", ((2,), ())))

    def test_a_unit_that_is_an_entry_of_neither(self):
        first = "function f ( x : 2 ) : 1 { return x == 1#2 ; }"
        self.told(first, "function f ( y : 2 ) : 1 { return y != 1#2 ; }", ("parts", ((0,), ())), unit="f")
        self.told(first, "function f ( y : 2 ) : 1 { return 1#2 == y ; }", ("alike",), unit="f")

    def test_many_bits(self):
        ahead = "external e ( ) : 3 needs 1#1 gives 1#1 ; "
        body = "var y : 3 ; var z : 3 ; call y = e ( ) ; call z = e ( ) ; "
        first = self.main(body + "return wide ( y * z , 2 ) ;", "x : 6", ahead)
        second = self.main(body + "if x == 63#6 { if y == 7#3 { if z == 7#3 { return 0#2 ; } } } "
                                  "return wide ( z * y , 2 ) ;", "x : 6", ahead)
        self.told(first, second, ("parts", ((63,), (7, 7))), (24, 4, 4, 12))
        self.told(first, first, ("alike",), (24, 4, 4, 12))

    def test_more_leaves_than_a_book_has(self):
        body = "while x != y { let y = y + 1#8 ; }"
        first = "entry function main ( x : 8 ) : 8 { var y : 8 ; " + body + " return y ; }"
        second = "entry function main ( x : 8 ) : 8 { var y : 8 ; " + body + " return x ^ 1#8 ; }"
        self.told(first, first, ("open", "steps", ((24,), ())))
        self.told(first, second, ("parts", ((0,), ())))


class Errors(unittest.TestCase):
    FIRST = "entry function main ( x : 4 , y : 3 ) : 2 { } "

    def error(self, second, *more, first=FIRST, unit="main"):
        one, two = program_of(first), program_of(second)
        return (error_of(compare, one, two, unit, *more), error_of(tells_apart, one, two, unit, ((0, 0), ()), *more))

    def test_unlike(self):
        for second in ("function main ( x : 4 , y : 3 ) : 2 { }", "entry function other ( x : 4 , y : 3 ) : 2 { }",
                       "entry function main ( x : 4 ) : 2 { }", "entry function main ( x : 3 , y : 4 ) : 2 { }",
                       "entry function main ( x : 4 , y : 3 ) : 1 { }", "record main { }",
                       "external main ( x : 4 ) : 2 needs 1#1 gives 1#1 ;",
                       "entry function main ( x : 4 , y : 3 , z : 1 ) : 2 { }"):
            self.assertEqual(self.error(second), (("Unlike",),) * 2, second)
            self.assertEqual(self.error(self.FIRST, first=second), (("Unlike",),) * 2)
            # Ahead of the widths, and behind the bounds.
            self.assertEqual(self.error(second, (24, 4, 4, 6)), (("Unlike",),) * 2)
            self.assertEqual(self.error(second, (24, 4, 4, 13)), (("BadBounds",),) * 2)
        self.assertEqual(self.error("entry function main ( b : 4 , a : 3 ) : 2 { }"), (None, None))

    def test_units_with_references(self):
        first = "record box { } function f ( x : 4 , y : 3 ) : 2 { }"
        for second in ("record box { } function f ( x : 4 , y : box ) : 2 { }",
                       "record box { } function f ( x : 4 , y : 3 ) : box { }"):
            self.assertEqual(self.error(second, first=first, unit="f"), (("Unlike",),) * 2)

    def test_too_wide(self):
        self.assertEqual(self.error(self.FIRST, (24, 4, 4, 6)), (("TooWide", "main"),) * 2)
        self.assertEqual(self.error(self.FIRST, (24, 4, 4, 7)), (None, None))

    def test_args(self):
        one = program_of(self.FIRST)
        for args in ((), (0,), (16, 0), (0, 8), (-1, 0), (0, 0, 0)):
            self.assertEqual(error_of(tells_apart, one, one, "main", (args, ())), ("BadInput", "args"))
            self.assertEqual(error_of(tells_apart, one, one, "main", (args, ()), (24, 4, 4, 6)), ("TooWide", "main"))
        self.assertIs(tells_apart(one, one, "main", ((15, 7), (3,))), False)


class Compared(unittest.TestCase):
    FIRST = program_of("entry function a ( x : 1 ) : 1 { return x ; } entry function gone ( ) : 1 { } "
                       "entry function b ( x : 1 ) : 1 { } entry function broad ( x : 8 ) : 1 { } "
                       "entry function last ( ) : 1 { } function plain ( ) : 1 { } entry function c ( ) : 1 { }")
    SECOND = program_of("entry function new ( ) : 1 { } entry function b ( x : 1 ) : 1 { return x ; } "
                        "entry function c ( x : 1 ) : 1 { } entry function a ( x : 1 ) : 1 { return ~ ~ x ; } "
                        "function last ( ) : 1 { } entry function plain ( ) : 1 { } ")

    def test_the_order(self):
        self.assertEqual(compared(self.FIRST, self.SECOND), (
            ("new", ("new",)), ("b", ("parts", ((1,), ()))), ("c", ("unlike",)), ("a", ("alike",)),
            ("plain", ("new",)), ("gone", ("gone",)), ("broad", ("gone",)), ("last", ("gone",)),
        ))
        self.assertEqual(compared(self.SECOND, self.FIRST), (
            ("a", ("alike",)), ("gone", ("new",)), ("b", ("parts", ((1,), ()))), ("broad", ("new",)),
            ("last", ("new",)), ("c", ("unlike",)), ("new", ("gone",)), ("plain", ("gone",)),
        ))
        self.assertEqual(compared((), ()), ())

    def test_bounds(self):
        deep = program_of("entry function a ( ) : 1 { call a ( ) ; }")
        self.assertEqual(compared(deep, deep, (24, 2, 4, 8)), (("a", ("open", "depth", ((), ()))),))

    def test_errors(self):
        narrow = (24, 4, 4, 7)
        # Only what is compared can be too wide.
        self.assertIsNone(error_of(compared, self.FIRST, self.SECOND, narrow))
        self.assertEqual(error_of(compared, self.FIRST, self.FIRST, narrow), ("TooWide", "broad"))
        self.assertEqual(error_of(compared, self.FIRST, self.FIRST, (24, 4, 4, 0)), ("TooWide", "a"))
        unlike = program_of("entry function broad ( x : 7 ) : 1 { }")
        self.assertEqual(compared(self.FIRST, unlike, (24, 4, 4, 0))[0], ("broad", ("unlike",)))
        self.assertEqual(error_of(compared, (), (), (24, 4, 4)), ("BadBounds",))

    def test_drawn_ones(self):
        seen = set()
        for seed, program, unit, bounds in drawn_units(0, 120, (8,)):
            other = changed(random.Random(seed), program, unit)
            for entry, answer in compared(program, other, bounds):
                self.assertEqual(declared(program, entry)[4], 1)
                self.assertEqual(answer, compare(program, other, entry, bounds))
                seen.add(answer[0])
        self.assertEqual(seen, {"parts", "open", "alike"})


if __name__ == "__main__":
    unittest.main()
