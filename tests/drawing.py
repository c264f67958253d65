"""Drawn programs with their units and bounds, as the tests of books go through them."""

import random

from helping import units_of
from making import made_program
from metorshut.books import book_of
from metorshut.errors import LimitError
from rich import rich_program


def drawn_units(first, last, bits=(4, 6), **more):
    """Yields (seed, program, unit, bounds) for the seeds of a range."""
    for seed in range(first, last):
        dice = random.Random(seed)
        program = rich_program(seed, **more) if seed % 3 or more else made_program(seed)
        bounds = (dice.choice((6, 12, 24, 32)), dice.choice((1, 2, 4, 8)), dice.choice((0, 1, 4)), dice.choice(bits))
        for unit in units_of(program, bounds):
            yield seed, program, unit, bounds


def drawn_books(first, last, **more):
    """Yields the same with the book in addition, where there is one."""
    for seed, program, unit, bounds in drawn_units(first, last, **more):
        try:
            book = book_of(program, unit, bounds)
        except LimitError:
            continue
        yield seed, program, unit, bounds, book


def nodes_of(tree):
    """All nodes of a tree, and its shut sides."""
    found = [tree]
    if tree[0] in ("look", "loop"):
        found += nodes_of(tree[3]) + nodes_of(tree[4])
    elif tree[0] == "ask":
        found += nodes_of(tree[3])
    return found
