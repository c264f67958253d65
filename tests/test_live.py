import unittest

from making import made_program
from metorshut.graphs import graph_of
from metorshut.live import behind, live_rows
from metorshut.reading import read_program

HEAD = """
external ask ( a : 1 ) : 1 needs 1#1 gives 1#1 ;
function g ( ) : 8 { }
function f ( p : 1 , q : 8 ) : 8 { var s : 8 ; var v : 8 [ 3 ] ; %s }
"""


def graph(text):
    return graph_of(read_program(HEAD % text), "f")


def pairs(*told):
    """Each told (look, other, bit): both ways of the look are behind this way of the other one."""
    return tuple(sorted(((look, way), (other, bit)) for look, other, bit in told for way in (0, 1)))


class Live(unittest.TestCase):
    def test_all(self):
        self.assertEqual(live_rows(graph("")), (0, 1))
        self.assertEqual(live_rows(graph("if p { let s = q ; }")), (0, 1, 2, 3))
        self.assertEqual(live_rows(graph("while p { let s = q ; }")), (0, 1, 2, 3, 4))

    def test_rows_that_are_never_reached(self):
        self.assertEqual(live_rows(graph("return s ;")), (0, 1))
        self.assertEqual(live_rows(graph("return s ; let s = q ;")), (0, 1))
        self.assertEqual(live_rows(graph("raise a ; while p { }")), (0, 1))
        self.assertEqual(live_rows(graph("if p { return s ; let s = q ; } let q = s ;")), (0, 1, 2, 4, 5))
        self.assertEqual(live_rows(graph("try { } catch a { let s = q ; }")), (0, 2))
        self.assertEqual(live_rows(graph("try { raise b ; } catch a { let s = q ; }")), (0, 1))
        self.assertEqual(live_rows(graph("try { raise a ; } catch a { let s = q ; } catch b { return s ; }")), (0, 1, 2, 4))

    def test_by_calls_and_asks(self):
        self.assertEqual(live_rows(graph("try { call g ( ) ; } catch a { let s = q ; }")), (0, 1, 2, 3))
        self.assertEqual(live_rows(graph("try { call ask ( p ) ; } catch a { let s = q ; }")), (0, 1, 3))
        self.assertEqual(live_rows(graph("try { call ask ( p ) ; } catch duty { let s = q ; }")), (0, 1, 2, 3))
        self.assertEqual(live_rows(graph("try { let v [ s ] = q ; } catch index { return s ; }")), (0, 1, 2, 3, 4))
        self.assertEqual(live_rows(graph("try { let v [ s ] = q ; } catch zero { return s ; }")), (0, 1, 2, 4))


class Behind(unittest.TestCase):
    def test_none(self):
        self.assertEqual(behind(graph("")), ())
        self.assertEqual(behind(graph("if p { }")), ())
        self.assertEqual(behind(graph("if p { } if p { }")), ())
        self.assertEqual(behind(graph("while p { }")), ())

    def test_blocks(self):
        self.assertEqual(behind(graph("if p { if p { } } if p { }")), pairs((1, 0, 1)))
        self.assertEqual(behind(graph("if p { } else { if p { } }")), pairs((1, 0, 0)))
        self.assertEqual(behind(graph("while p { if p { } } if p { }")), pairs((1, 0, 1), (2, 0, 0)))
        self.assertEqual(
            behind(graph("if p { while p { if p { } } }")), pairs((1, 0, 1), (2, 0, 1), (2, 1, 1))
        )

    def test_looks_that_raise(self):
        self.assertEqual(behind(graph("assert p ; assert p ; assert p ;")), pairs((1, 0, 1), (2, 0, 1), (2, 1, 1)))
        self.assertEqual(behind(graph("if p { return s ; } assert p ;")), pairs((1, 0, 0)))
        self.assertEqual(
            behind(graph("try { assert p ; let v [ s ] = q ; } catch index { if p { } } catch zero { if p { } }")),
            pairs((1, 0, 1), (2, 0, 1), (2, 1, 0)),
        )
        self.assertEqual(
            behind(graph("try { assert p ; assert p ; } catch claim { if p { } }")), pairs((1, 0, 1))
        )

    def test_ways_that_are_not_live(self):
        self.assertEqual(behind(graph("return s ; if p { if p { } }")), ())
        self.assertEqual(behind(graph("if p { return s ; if p { } }")), ())
        self.assertEqual(behind(graph("try { } catch a { if p { if p { } } } assert p ; assert p ;")), pairs((3, 2, 1)))

    def test_ways_that_lead_to_one_row(self):
        self.assertEqual(behind(graph("if p { } else { } assert p ;")), ())

    def test_both_ways_of_a_look(self):
        self.assertEqual(
            behind(graph("if p { assert p ; } else { assert p ; } if p { }")), pairs((1, 0, 1), (2, 0, 0))
        )

    def test_random_ones_by_their_words(self):
        for seed in range(150):
            program = made_program(seed)
            for one in program:
                if one[0] == "function":
                    told = graph_of(program, one[1])
                    self.assertEqual(behind(told), plain_behind(told))
                    self.assertEqual(live_rows(told), tuple(sorted(reached(told[1], None))))


def steps(rows, at):
    """Pairs of the way, None if it is none, and the row."""
    row = rows[at]
    if row[0] == "look":
        found = [((row[1], 1), row[3]), ((row[1], 0), row[4])]
    elif row[0] in ("return", "raise"):
        found = []
    elif row[0] == "call":
        found = [(None, row[4])] + [(None, to) for _, to in row[5]]
    elif row[0] == "ask":
        found = [(None, row[4]), (None, row[5])]
    else:
        found = [(None, row[-1])]
    return [(way, to) for way, to in found if not isinstance(to, str)]


def reached(rows, without):
    """All rows on paths from row 0 that do not go one way."""
    found = {0}
    while True:
        more = {to for at in found for way, to in steps(rows, at) if way is None or way != without}
        if more <= found:
            return found
        found |= more


def plain_behind(told):
    rows = told[1]
    live = reached(rows, None)
    looks = {row[1]: at for at, row in enumerate(rows) if row[0] == "look" and at in live}
    ways = [(look, bit) for look in looks for bit in (0, 1)]
    found = []
    for y in ways:
        left = reached(rows, y)
        found += [(x, y) for x in ways if x != y and looks[x[0]] not in left]
    return tuple(sorted(found))


if __name__ == "__main__":
    unittest.main()
