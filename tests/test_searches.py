"""The orders in which a search finds the leaves of a book."""

import random
import unittest

from drawing import drawn_books
from helping import program_of
from metorshut.books import book_of
from metorshut.leaves import leaves_of
from metorshut.searches import searched
from plainbook import loose_book


def plain_order(leaves, order):
    """The leaves in an order, one after the other."""
    if order == "deep":
        return leaves
    left, found, gone = list(leaves), [], set()
    while left:
        if order == "wide":
            ranks = [-len(leaf[1]) for leaf in left]
        else:
            ranks = [len(set(leaf[1]) - gone) for leaf in left]
        found.append(left.pop(ranks.index(max(ranks))))
        gone |= set(found[-1][1])
    return tuple(found)


class Searches(unittest.TestCase):
    def test_drawn_books(self):
        changed = {"wide": 0, "new": 0}
        for seed, program, unit, bounds, book in drawn_books(0, 220):
            leaves = leaves_of(program, book)
            for order in ("deep", "wide", "new"):
                told = plain_order(leaves, order)
                self.assertEqual(searched(program, book, order), told, (seed, unit, order))
                if told != leaves:
                    changed[order] += 1
        self.assertGreater(min(changed.values()), 40)

    def test_books_with_other_orders_of_nodes(self):
        """Nodes that nothing uses, and sides left open to which no input goes, do not matter either."""
        for seed, program, unit, bounds, book in drawn_books(0, 80):
            if len(repr(book)) > 4000:
                continue
            other = loose_book(random.Random(seed), program, unit, bounds)
            for order in ("deep", "wide", "new"):
                self.assertEqual(searched(program, other, order), searched(program, book, order))

    def test_ties(self):
        program = program_of("entry function main ( x : 2 ) : 2 { if x == 0#2 { return 1#2 ; } "
                             "if x == 1#2 { if 1#1 { } return 2#2 ; } if x == 2#2 { return 3#2 ; } }")
        book = book_of(program, "main")
        first = [leaf[0][0][0] for leaf in searched(program, book, "deep")]
        self.assertEqual(first, [0, 1, 2, 3])
        self.assertEqual([leaf[0][0][0] for leaf in searched(program, book, "wide")], [0, 1, 2, 3])
        # Of 1 and the others three ways are new; then one of 0, 2 and 3 each.
        self.assertEqual([leaf[0][0][0] for leaf in searched(program, book, "new")], [1, 2, 0, 3])

    def test_each_way_is_counted_once(self):
        program = program_of("entry function main ( x : 3 ) : 3 { while x < 4#3 { if x == 7#3 { } let x = x + 1#3 ; } "
                             "if x == 7#3 { if x == 7#3 { } if x == 7#3 { } if x == 7#3 { } } }")
        book = book_of(program, "main")
        new = searched(program, book, "new")
        self.assertEqual(new[0][0], ((7,), ()))
        self.assertEqual(new, plain_order(leaves_of(program, book), "new"))
        wide = searched(program, book, "wide")
        self.assertEqual([len(leaf[1]) for leaf in wide], sorted(len(leaf[1]) for leaf in wide))

    def test_one_leaf(self):
        program = program_of("entry function main ( ) : 1 { }")
        for order in ("deep", "wide", "new"):
            self.assertEqual(searched(program, book_of(program, "main"), order), ((((), ()), (), (), ("returns", 0)),))


if __name__ == "__main__":
    unittest.main()
