"""The prints of entries (points 17, 42 and 46)."""

from metorshut.allruns import AllRuns, answer_widths_of
from metorshut.bounds import BOUNDS, check_bounds
from metorshut.findings import MutantFindings, texts_of
from metorshut.frames import check_width
from metorshut.programs import declared


def print_of(program, entry, kind, bounds=BOUNDS):
    """The pairs (name, text) of what the runs of an entry meet, ascending."""
    check_bounds(bounds)
    check_width(declared(program, entry), bounds)
    if kind == "mutants":
        return MutantFindings(program, entry, bounds).printed()
    # No more leaves are too many here.
    runs = AllRuns(program, entry, bounds, answer_widths_of(program), None)
    return texts_of(program, runs.names_met())
