"""Joining two batches of one program (points 45 and 49)."""

from metorshut.check import check
from metorshut.edits import edited, names_changed
from metorshut.errors import Clash
from metorshut.programs import declared


def joined(program, first, second):
    """The program with both batches, which touch no name both of them."""
    one, two = edited(program, first), edited(program, second)
    by_first, by_second = names_changed(program, one), names_changed(program, two)
    for name in by_first:
        if name in by_second:
            raise Clash(name)
    found = []
    for declaration in program:
        name = declaration[1]
        # What a batch does not touch stands there unchanged, so each program tells it where the other one does not.
        found.append(declared(one if name in by_first else two, name))
    for part in (one, two):
        found.extend([declaration for declaration in part if declared(program, declaration[1]) is None])
    found = tuple([declaration for declaration in found if declaration is not None])
    check(found)
    return found
