"""Counting loops (points 3, 7, 12 and 35)."""

from metorshut.programs import declared
from metorshut.spots import spots_of
from metorshut.words import result

OPS = ("<", "<=", "!=")
SIGNS = ("+", "-")


def counting_loops(program, name):
    """The shapes of the counting loops of a function, ascending by number."""
    found = []
    waiting, _ = spots_of(declared(program, name))
    waiting.reverse()
    while waiting:
        spot = waiting.pop()
        shape = _shape_of(spot)
        if shape is not None:
            found.append(shape)
        for block in reversed(spot.blocks):
            waiting.extend(block[::-1])
    return tuple(found)


def _shape_of(spot):
    """The shape of a counting loop; None if the statement is none."""
    if spot.statement[0] != "while":
        return None
    _, expr, body = spot.statement
    if expr[0] not in OPS or expr[1][0] != "name" or expr[2][0] not in ("name", "word"):
        return None
    changes = [_change_of(statement) for statement in body]
    if None in changes:
        return None
    names = [change[0] for change in changes]
    op, (_, counted), limit = expr
    if counted not in names or len({name: True for name in names}) < len(names):
        return None
    if limit[0] == "name" and limit[1] in names:
        return None
    return "counting", spot.number, counted, op, limit, tuple(changes)


def _change_of(statement):
    """The change (name, width, difference) that a statement makes; None if it makes another one, or none."""
    if statement[0] != "let":
        return None
    _, place, expr = statement
    if place[0] != "name" or expr[0] not in SIGNS or expr[1] != place or expr[2][0] != "word":
        return None
    _, value, width = expr[2]
    return place[1], width, value if expr[0] == "+" else result("neg", width, value)


def turns(shape, limit, words):
    """How often the block is done from these words on; None if without end."""
    _, _, counted, op, _, changes = shape
    for (name, width, difference), word in zip(changes, words):
        if name == counted:
            # In so many turns it is what it was at first.
            for many in range(1 << width):
                if result(op, width, word, limit) == 0:
                    return many
                word = result("+", width, word, difference)
    return None


def left_with(shape, limit, words):
    """The words behind the loop; None if it has no end."""
    many = turns(shape, limit, words)
    if many is None:
        return None
    found = []
    for (_, width, difference), word in zip(shape[5], words):
        found.append(word + many * difference & ((1 << width) - 1))
    return tuple(found)
