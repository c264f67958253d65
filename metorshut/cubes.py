"""Cubes: what is known of the bits of inputs (point 26)."""

from metorshut.columns import word_columns
from metorshut.nodeparts import cone_of
from metorshut.readings import read_columns

WIDEST = 8


def read_term(nodes, cube, term):
    """The pair that is read of a term."""
    inputs = {}
    for number, (known, bits) in enumerate(cube):
        # The columns of a single cube are its bits.
        inputs[number] = (word_columns(WIDEST, known, 1), word_columns(WIDEST, bits, 1))
    known, bits = read_columns(nodes, cone_of(nodes, (term,)), inputs, 1)[term]
    return _joined(known), _joined(bits)


def _joined(bits):
    found = 0
    for at, bit in enumerate(bits):
        found |= bit << at
    return found


def fits(cube, words):
    """Whether words, as many as there are pairs, fit a cube."""
    return all([word & known == bits for (known, bits), word in zip(cube, words)])
