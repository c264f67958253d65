"""Which inputs part a program from its mutants (points 38, 41, 42 and 44)."""

from metorshut.bounds import BOUNDS, check_bounds
from metorshut.closures import closure_of
from metorshut.errors import HasAsks
from metorshut.frames import widths_of
from metorshut.mutating import with_mutant
from metorshut.parting import parted_rows
from metorshut.programs import declared
from metorshut.runs import Machine
from metorshut.suites import suite_of
from metorshut.words import all_words


def matrix_of(program, entry, bounds=BOUNDS):
    """The pairs (input, numbers of the goals that it meets) of a suite of mutants."""
    return parted_rows(program, entry, suite_of(program, entry, "mutants", bounds), bounds)


def implied(program, entry, one, two, bounds=BOUNDS):
    """None if one mutant (function, number) implies the other one, or else the least arguments against it."""
    check_bounds(bounds)
    programs = (program, with_mutant(program, *one), with_mutant(program, *two))
    for part in programs:
        if any([declared(part, name)[0] == "external" for name in closure_of(part, entry)]):
            raise HasAsks()
    machines = [Machine(part) for part in programs]
    for args in all_words(widths_of(declared(program, entry))):
        outcomes = [machine.run(entry, args, (), bounds)[3] for machine in machines]
        shown, first, second = outcomes
        if all([outcome[0] != "cut" for outcome in outcomes]) and first != shown and second == shown:
            return args
    return None
