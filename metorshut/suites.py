"""Suites and their tests (points 15, 17, 36 to 38, 41 and 42)."""

from metorshut.bounds import BOUNDS, check_bounds
from metorshut.errors import BadInput
from metorshut.findings import findings_of, goals_met
from metorshut.frames import check_width
from metorshut.goals import goals_of
from metorshut.programs import declared
from metorshut.runs import Machine


def suite_of(program, entry, kind, bounds=BOUNDS):
    """The suite of an entry: the pairs (goal, answer) in order."""
    check_bounds(bounds)
    findings = findings_of(program, entry, kind, bounds)
    return findings.suite(goals_of(program, entry, kind))


def tests_of(program, entry, kind, bounds=BOUNDS):
    """The tests of the suite: the fewest inputs that meet together all goals that are met, the least ones."""
    check_bounds(bounds)
    findings = findings_of(program, entry, kind, bounds)
    return findings.tests(findings.suite(goals_of(program, entry, kind)))


def met_by(program, entry, kind, inputs, bounds=BOUNDS):
    """The goals, in order, that some of the inputs meet, for a kind but mutants."""
    check_bounds(bounds)
    check_width(declared(program, entry), bounds)
    met = {}
    for _, ways, _, outcome, _ in full_reports(program, entry, inputs, bounds):
        for goal in goals_met(kind, ways, outcome):
            met[goal] = True
    return tuple([goal for goal in goals_of(program, entry, kind) if goal in met])


def full_reports(program, entry, inputs, bounds):
    """The reports of runs with inputs; raises BadInput for the first one that does not fit, or is not full."""
    machine = Machine(program)
    found = []
    for args, answers in inputs:
        report = machine.run(entry, args, answers, bounds)
        if report[3][0] == "asks":
            raise BadInput("answers")
        found.append(report)
    return found
