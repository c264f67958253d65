"""Comparing programs (points 2, 14, 15, 17, 42 and 54)."""

from metorshut.allruns import AllRuns, answer_widths_of
from metorshut.bounds import BOUNDS, check_bounds
from metorshut.closures import is_open
from metorshut.errors import Unlike
from metorshut.frames import check_width, widths_of
from metorshut.parting import is_parted
from metorshut.programs import declared, entries_of
from metorshut.runs import Machine
from metorshut.walks import Walks


def compare(program, other, entry, bounds=BOUNDS):
    """How two programs compare at an entry: ("parts", input), ("open", bound, input) or ("alike",)."""
    _check(program, other, entry, bounds)
    widths = answer_widths_of(program)
    for name, width in answer_widths_of(other).items():
        # An answer that is let in both has both widths.
        widths[name] = min(width, widths.get(name, width))
    walks = Walks(AllRuns(program, entry, bounds, widths, None), other, False)
    walks.go(walks.left)
    return walks.told()


def tells_apart(program, other, entry, tried, bounds=BOUNDS):
    """Whether an input parts two programs."""
    _check(program, other, entry, bounds)
    return is_parted(Machine(program), Machine(other), entry, tried, bounds)


def compared(program, other, bounds=BOUNDS):
    """The pairs (entry, answer) for all entries of two programs, those of the second one first."""
    check_bounds(bounds)
    elder, newer = entries_of(program), entries_of(other)
    found = []
    for entry in newer:
        if entry not in elder:
            found.append((entry, ("new",)))
        elif not _are_comparable(program, other, entry):
            found.append((entry, ("unlike",)))
        else:
            found.append((entry, compare(program, other, entry, bounds)))
    return tuple(found + [(entry, ("gone",)) for entry in elder if entry not in newer])


def _check(program, other, entry, bounds):
    """None if the programs can be compared at an entry; raises BadBounds, Unlike and TooWide."""
    check_bounds(bounds)
    if not _are_comparable(program, other, entry):
        raise Unlike()
    check_width(declared(program, entry), bounds)


def _are_comparable(program, other, entry):
    """Whether the programs have a unit of this name, an entry of both or of neither, with the same widths."""
    one, two = declared(program, entry), declared(other, entry)
    for declaration, whole in ((one, program), (two, other)):
        if declaration is None or declaration[0] != "function" or not is_open(whole, entry):
            return False
    return widths_of(one) == widths_of(two) and one[3:5] == two[3:5]
