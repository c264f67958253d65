"""The statements of a function with the numbers of their looks and rows (points 12 and 19)."""

from metorshut.parts import blocks_of, lengths_of, looks_at

WITHOUT_ROW = ("if", "while", "assert", "try")


class Spot:
    """A statement, its looks, the number of the first one, the number of its first row, and its blocks of spots."""

    def __init__(self, statement, looks, number, row):
        self.statement = statement
        self.looks = looks
        self.number = number
        self.row = row
        self.blocks = []


class Counter:
    """The numbers of the look and the row that come next."""

    def __init__(self, lengths):
        self.lengths = lengths
        self.number = 0
        # Row 0 stands ahead of all statements.
        self.row = 1


def spots_of(function):
    """A pair: the spots of a function's body, and the number of the row behind them."""
    counter = Counter(lengths_of(function))
    spots = _spots_in(function[6], counter)
    return spots, counter.row


def _spots_in(body, counter):
    return [_spot_of(statement, counter) for statement in body]


def _spot_of(statement, counter):
    looks = looks_at(statement, counter.lengths)
    spot = Spot(statement, looks, counter.number, counter.row)
    counter.number += len(looks)
    counter.row += len(looks)
    if statement[0] == "while" or statement[0] not in WITHOUT_ROW:
        counter.row += 1
    for block in blocks_of(statement):
        spot.blocks.append(_spots_in(block, counter))
    return spot
