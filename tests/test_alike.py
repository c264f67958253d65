"""Papers that two programs are alike."""

import random
import unittest

from changing import changed, rewritten
from drawing import drawn_books
from helping import program_of
from metorshut.alike import alike_paper, judge_alike
from metorshut.books import book_of
from metorshut.bounds import BOUNDS
from metorshut.comparing import compare
from metorshut.errors import LimitError
from plainalike import PlainAlike
from plainbook import loose_book
from spoiling import part_at, places_in, with_part

WORDS = ("first", "second", "shut", "asks", "ends")
ASK = "external ask ( a : 2 ) : 2 needs a != 0#2 gives result != a ; "


def drawn_mates(first, last):
    """Yields (dice, program, other, unit, bounds, book, mate) for changed programs."""
    for seed, program, unit, bounds, book in drawn_books(first, last):
        dice = random.Random(seed)
        for action in (changed, changed, rewritten):
            other = action(dice, program, unit)
            try:
                mate = book_of(other, unit, bounds)
            except LimitError:
                continue
            yield dice, program, other, unit, bounds, book, mate


def words_in(paper):
    """The first words of a paper and its parts."""
    found = {paper[0]}
    if paper[0] in ("first", "second"):
        return found | words_in(paper[1]) | words_in(paper[2])
    return found | words_in(paper[2]) if paper[0] == "asks" else found


class Drawn(unittest.TestCase):
    def test_one_exactly_if_there_is_one(self):
        seen = {}
        words = set()
        for dice, program, other, unit, bounds, book, mate in drawn_mates(0, 170):
            paper = alike_paper(program, other, unit, book, mate)
            told = compare(program, other, unit, bounds)[0]
            seen[told, paper is not None] = seen.get((told, paper is not None), 0) + 1
            plain = PlainAlike(program, other, book, mate)
            if paper is None:
                # Where externals differ, alike programs need not have one.
                if told == "alike":
                    self.assertFalse(plain.is_there())
            else:
                words |= words_in(paper)
                self.assertEqual(told, "alike")
                self.assertIs(judge_alike(program, other, unit, book, mate, paper), True)
                self.assertTrue(plain.right(paper))
        self.assertEqual(words, set(WORDS))
        self.assertGreater(seen["alike", True], 200)
        self.assertGreater(min(seen["parts", False], seen["open", False]), 20)

    def test_one_declaration_in_both(self):
        """If they are alike, and no external differs, there is a paper."""
        many = 0
        for dice, program, other, unit, bounds, book, mate in drawn_mates(170, 300):
            if all(one in other for one in program if one[0] == "external"):
                paper = alike_paper(program, other, unit, book, mate)
                self.assertEqual(paper is not None, compare(program, other, unit, bounds) == ("alike",))
                many += 1
        self.assertGreater(many, 80)

    def test_other_right_books(self):
        opened = 0
        for dice, program, other, unit, bounds, book, mate in drawn_mates(0, 60):
            if len(repr(book)) + len(repr(mate)) > 4000:
                continue
            book = loose_book(dice, program, unit, bounds)
            mate = loose_book(dice, other, unit, bounds)
            paper = alike_paper(program, other, unit, book, mate)
            if paper is not None:
                self.assertIs(judge_alike(program, other, unit, book, mate, paper), True)
                self.assertTrue(PlainAlike(program, other, book, mate).right(paper))
                opened += "shut" in words_in(paper)
        self.assertGreater(opened, 10)

    def test_spoilt_ones_against_a_plain_judge(self):
        taken = seen = 0
        for dice, program, other, unit, bounds, book, mate in drawn_mates(0, 110):
            paper = alike_paper(program, other, unit, book, mate)
            if paper is None or len(repr(paper)) > 3000:
                continue
            plain = PlainAlike(program, other, book, mate)
            for _ in range(8):
                bad = spoilt(dice, paper)
                told = plain.right(bad)
                self.assertIs(judge_alike(program, other, unit, book, mate, bad), told, (program, other, bad))
                taken += told
                seen += 1
        self.assertTrue(50 < taken < seen - 500, (taken, seen))

    def test_papers_of_other_programs(self):
        papers = [alike_paper(program, other, unit, book, mate)
                  for _, program, other, unit, bounds, book, mate in drawn_mates(0, 40)]
        papers = [paper for paper in papers if paper is not None][:25]
        taken = 0
        for _, program, other, unit, bounds, book, mate in drawn_mates(40, 80):
            plain = PlainAlike(program, other, book, mate)
            for paper in papers:
                told = plain.right(paper)
                self.assertIs(judge_alike(program, other, unit, book, mate, paper), told)
                taken += told
        self.assertGreater(taken, 5)


def is_alike_part(part):
    return isinstance(part, tuple) and part[:1] and part[0] in WORDS


def spoilt(dice, paper):
    """A paper with another part at one place."""
    places = [(), *places_in(paper)]
    while True:
        at = dice.choice(places)
        part = part_at(paper, at)
        others = spoilt_parts(dice, paper, part)
        if others:
            return with_part(paper, at, dice.choice(others))


def spoilt_parts(dice, paper, part):
    if part is None:
        return [("clash", 0), ("split", 0, 0, ("clash", 0), ("clash", 0))]
    if isinstance(part, int):
        return [part + 1, part - 1, -1, 1000000, -1000000]
    if isinstance(part, str) or not part:
        return []
    if part[0] == "split":
        return [(*part[:3], part[4], part[3]), part[3], part[4]]
    if part[0] in ("clash", "sums"):
        return [("clash", 0), ("clash", 1), ("sums", ((0, 1),)), ("sums", ())]
    if part[0] in ("first", "second"):
        return [(part[0], part[2], part[1]), ("second" if part[0] == "first" else "first", *part[1:]), part[1], part[2],
                ("shut", ("clash", 0)), ("ends", None), ("asks", (), part[1])]
    if part[0] == "shut":
        return [("ends", part[1]), ("ends", None), ("first", part, part), ("shut", ("clash", 0)), ("asks", (), part)]
    if part[0] == "ends":
        return [("shut", ("clash", 0)), ("ends", None), ("ends", ("clash", 0)), ("first", part, part),
                ("asks", (), part)]
    if part[0] == "asks":
        return [(part[0], (), part[2]), (part[0], (*part[1], ("clash", 0)), part[2]), part[2], ("ends", None),
                (part[0], part[1][::-1], part[2]), ("shut", ("clash", 0))]
    return []


class Papers(unittest.TestCase):
    def mates(self, first, second, bounds=BOUNDS):
        programs = (program_of(first), program_of(second))
        return (*programs, "main", *[book_of(program, "main", bounds) for program in programs])

    def main(self, body, ahead="", params="x : 2"):
        return ahead + f"entry function main ( {params} ) : 2 {{ {body} }}"

    def taken(self, mates, paper, told):
        self.assertIs(judge_alike(*mates, paper), told, paper)
        self.assertIs(PlainAlike(*mates[:2], *mates[3:]).right(paper), told, paper)

    def test_a_plain_one(self):
        mates = self.mates(self.main("if x < 2#2 { raise ouch ; } return 1#2 ;"),
                           self.main("if 2#2 <= x { return 1#2 ; } raise ouch ;"))
        paper = alike_paper(*mates)
        self.assertEqual([paper[0], paper[1][0], paper[2][0]], ["first", "second", "second"])
        self.assertEqual([paper[1][1][0], paper[1][2]], ["shut", ("ends", None)])
        self.assertEqual([paper[2][1][0], paper[2][2][0]], ["ends", "shut"])
        self.taken(mates, paper, True)
        # Sides exchanged, and a side shut to which inputs go.
        self.taken(mates, ("first", paper[2], paper[1]), False)
        self.taken(mates, ("first", ("second", *paper[1][:0:-1]), paper[2]), False)
        self.taken(mates, ("first", ("shut", ("clash", 0)), paper[2]), False)
        self.taken(mates, ("second", *paper[1:]), False)
        self.taken(mates, ("first", paper[1], ("first", *paper[2][1:])), False)

    def test_a_shut_that_is_no_side(self):
        one = self.main("return 1#2 ;")
        mates = self.mates(one, one)
        paper = alike_paper(*mates)
        self.assertEqual(paper, ("ends", ("clash", 0)))
        self.taken(mates, ("shut", ("clash", 0)), False)
        # Nor can what stands behind asks be shut.
        one = self.main("call x = ask ( 1#2 ) ; return 1#2 ;", ASK)
        mates = self.mates(one, one)
        paper = alike_paper(*mates)
        self.assertEqual([paper[0], paper[1][0], paper[1][1][0]], ["first", "second", "asks"])
        self.taken(mates, paper, True)
        _, papers, behind = paper[1][1]
        self.assertEqual(behind, ("ends", ("clash", 4)))
        for part in (("shut", ("clash", 4)), ("shut", ("clash", 0))):
            self.taken(mates, ("first", ("second", ("asks", papers, part), paper[1][2]), paper[2]), False)

    def test_a_side_that_is_shut_in_the_tree(self):
        """The paper shuts it at once, and does not go on along the other tree."""
        flat = self.main("if x < 2#2 { return 1#2 ; } return 2#2 ;")
        deep = self.main("if x < 2#2 { if x == 3#2 { raise ouch ; } return 1#2 ; } return 2#2 ;")
        mates = self.mates(deep, flat)
        paper = alike_paper(*mates)
        self.taken(mates, paper, True)
        word, yes, no = paper
        shut = yes[1]
        self.assertEqual((word, yes[0], shut[0]), ("first", "first", "shut"))
        self.taken(mates, (word, (yes[0], ("second", shut, shut), yes[2]), no), False)
        mates = self.mates(flat, deep)
        self.taken(mates, alike_paper(*mates), True)

    def test_where_no_answer_is_let_in_both(self):
        """No input goes on behind the asks; what stands there must be of one kind all the same."""
        ahead = "external one ( ) : 1 needs 1#1 gives result == 0#1 ; "
        other = ahead.replace("0#1", "1#1")
        for body, second, told in (("return 1#2 ;", "return 2#2 ;", True), ("raise a ;", "raise b ;", False),
                                   ("raise a ;", "raise a ;", True), ("return 1#2 ;", "raise a ;", False),
                                   ("if x == 0#2 { raise a ; } raise b ;", "return 1#2 ;", True),
                                   ("raise b ;", "if x == 0#2 { raise a ; } return 1#2 ;", True)):
            mates = self.mates(self.main("call one ( ) ; " + body, ahead), self.main("call one ( ) ; " + second, other))
            paper = alike_paper(*mates)
            self.assertEqual(compare(*mates[:3]), ("alike",))
            self.assertIs(paper is not None, told, (body, second))
            if told:
                self.taken(mates, paper, True)

    def test_ends_of_each_kind(self):
        loop = "while 1#1 { }"
        bodies = {"returns": "return x ;", "raises": "raise ouch ;", "bad": "raise bad ;", "endless": loop,
                  "cut": "call main ( x ) ;"}
        for one, first in bodies.items():
            for two, second in bodies.items():
                mates = self.mates(self.main(first), self.main(second))
                told = one == two and one != "cut"
                self.assertIs(alike_paper(*mates) is not None, told, (one, two))
                for paper in (None, ("clash", 0), ("split", 0, 0, ("clash", 0), ("clash", 0))):
                    if one != "endless" and two != "endless":
                        right = told and ((paper is None) == (one in ("raises", "bad")))
                        right = right and (paper is None or paper == ("clash", 0) or one == "returns")
                        self.taken(mates, ("ends", paper), right)

    def test_words_that_differ(self):
        mates = self.mates(self.main("return x + 1#2 ;"), self.main("return x - 3#2 ;"))
        self.assertEqual(alike_paper(*mates), ("ends", ("clash", 0)))
        mates = self.mates(self.main("return x + x ;"), self.main("return x << 1#1 ;"))
        paper = alike_paper(*mates)
        self.taken(mates, paper, True)
        self.taken(mates, ("ends", ("clash", 0)), False)
        self.assertIsNone(alike_paper(*self.mates(self.main("return x + x ;"), self.main("return x << 2#2 ;"))))

    def test_asks(self):
        mates = self.mates(self.main("call x = ask ( x + x ) ; return x ;", ASK),
                           self.main("call x = ask ( x << 1#1 ) ; return x ;", ASK))
        paper = alike_paper(*mates)
        asks = paper[1][1]
        self.assertEqual((asks[0], len(asks[1]), asks[2]), ("asks", 1, ("ends", ("clash", 4))))
        self.taken(mates, paper, True)

        def with_asks(part):
            return ("first", ("second", part, paper[1][2]), paper[2])

        for part in (("asks", (), asks[2]), ("asks", asks[1] * 2, asks[2]), ("asks", (("clash", 0),), asks[2]),
                     ("asks", asks[1], ("ends", None)), ("asks", asks[1], ("ends", ("clash", 0))), asks[2],
                     ("ends", None)):
            self.taken(mates, with_asks(part), False)

    def test_asks_of_two_externals(self):
        ahead = ASK + ASK.replace("ask", "other")
        mates = self.mates(self.main("call ask ( x ) ;", ahead), self.main("call other ( x ) ;", ahead))
        self.assertIsNone(alike_paper(*mates))
        self.taken(mates, ("first", ("second", ("asks", (("clash", 0),), ("ends", ("clash", 0))), ("ends", None)),
                           ("second", ("ends", None), ("ends", None))), False)

    def test_widths_of_externals(self):
        """The walks are alike, but the asks are not right where the widths differ."""
        for ahead, call in (("external e ( a : 2 ) : 1 needs 1#1 gives 1#1 ; ", "call e ( 1#2 ) ;"),
                            ("external e ( a : 1 ) : 2 needs 1#1 gives 1#1 ; ", "call e ( 1#1 ) ;")):
            first = self.main("call e ( 1#1 ) ;", "external e ( a : 1 ) : 1 needs 1#1 gives 1#1 ; ")
            mates = self.mates(first, self.main(call, ahead))
            self.assertEqual(compare(*mates[:3]), ("alike",))
            self.assertIsNone(alike_paper(*mates))
            same = self.mates(first, first)
            self.taken(same, alike_paper(*same), True)
            self.taken(mates, alike_paper(*same), False)

    def test_gives_that_differ(self):
        less = ASK.replace("result != a", "result < a")
        body = "call x = ask ( x ) ; if x == 3#2 { raise ouch ; } return x ;"
        mates = self.mates(self.main(body, ASK), self.main(body, less))
        paper = alike_paper(*mates)
        self.taken(mates, paper, True)
        self.assertIn("shut", words_in(paper[1]))
        third = self.main("call x = ask ( x ) ; return x ;", less)
        self.assertIsNotNone(alike_paper(*self.mates(self.main(body, ASK), third)))
        self.assertIsNone(alike_paper(*self.mates(self.main(body, ASK), third.replace("result < a", "result != a"))))

    def test_steady_in_one_program_only(self):
        ahead = "external e ( a : 1 ) : 2 needs 1#1 gives 1#1 ; "
        still = ahead.replace("2 needs", "2 steady needs")
        body = "var y : 2 ; call y = e ( wide ( x , 1 ) ) ; call x = e ( 1#1 ) ; "
        flat, same = body + "return x ;", body + "if y == x { return y ; } return x ;"
        for first, second in ((ahead, still), (still, ahead), (still, still)):
            mates = self.mates(self.main(flat, first), self.main(same, second))
            self.taken(mates, alike_paper(*mates), True)
        odd = body.replace("wide ( x , 1 )", "1#1") + "return x - y ;"
        zero = body.replace("wide ( x , 1 )", "1#1") + "return 0#2 ;"
        for first, second in ((ahead, still), (still, ahead), (still, still)):
            mates = self.mates(self.main(odd, first), self.main(zero, second))
            self.taken(mates, alike_paper(*mates), True)
        self.assertIsNone(alike_paper(*self.mates(self.main(odd, ahead), self.main(zero, ahead))))

    def test_cut_ends(self):
        deep = self.main("if x == 3#2 { call main ( x ) ; } return x ;")
        mates = self.mates(deep, deep)
        self.assertIsNone(alike_paper(*mates))
        flat = self.main("return x ;")
        self.assertIsNone(alike_paper(*self.mates(deep, flat)))
        self.assertIsNone(alike_paper(*self.mates(flat, deep)))

    def test_inputs_of_two_widths_with_one_number(self):
        ahead = "external e ( ) : 1 needs 1#1 gives 1#1 ; external f ( ) : 2 needs 1#1 gives 1#1 ; "
        first = self.main("var p : 1 ; if x == 0#2 { call p = e ( ) ; return wide ( p , 2 ) ; } call x = f ( ) ; "
                          "return x ;", ahead)
        second = self.main("var p : 1 ; if x != 0#2 { call x = f ( ) ; return x + 0#2 ; } call p = e ( ) ; "
                           "return wide ( p , 2 ) ;", ahead)
        mates = self.mates(first, second)
        self.taken(mates, alike_paper(*mates), True)


if __name__ == "__main__":
    unittest.main()
