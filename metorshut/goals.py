"""The goals of entries (point 36)."""

from metorshut.closures import closure_of, looks_of
from metorshut.errors import TooMany
from metorshut.inputs import pairs_of
from metorshut.mutating import mutants_of
from metorshut.parts import statements_in
from metorshut.programs import declared

KINDS = ("ways", "pairs", "ends", "mutants")
MOST_GOALS = 400


def goals_of(program, entry, kind):
    """The goals of an entry, in order."""
    closure = [declared(program, name) for name in closure_of(program, entry)]
    functions = [one for one in closure if one[0] == "function"]
    if kind == "ends":
        found = _end_goals(program, closure, functions)
    elif kind == "mutants":
        found = []
        for function in functions:
            many = len(mutants_of(program, function[1]))
            found.extend([("mutant", function[1], number) for number in range(many)])
    else:
        ways = _ways_of(program, closure)
        if kind == "ways":
            found = [("way", *way) for way in ways]
        else:
            found = [("pair", one, two) for one in ways for two in ways]
    if len(found) > MOST_GOALS:
        raise TooMany("goals")
    return tuple(found)


def _ways_of(program, closure):
    ways = []
    for declaration in closure:
        if declaration[0] != "record":
            name = declaration[1]
            many = len(looks_of(program, name))
            ways.extend([(name, number, bit) for number in range(many) for bit in (1, 0)])
    return ways


def _end_goals(program, closure, functions):
    raised = {}
    for function in functions:
        for statement in statements_in(function[6]):
            if statement[0] == "raise":
                raised[statement[1]] = True
    for declaration in closure:
        if declaration[0] != "record":
            for name in looks_of(program, declaration[1]):
                if name is not None:
                    raised[name] = True
    goals = [("end", "returns"), ("end", "endless")]
    return goals + [("end", "raises", name) for name in sorted(raised)]


def meets(goal, report):
    """Whether a run with this report meets a goal that is no mutant."""
    _, ways, _, outcome, _ = report
    if goal[0] == "way":
        return goal[1:] in ways
    if goal[0] == "pair":
        return goal[1:] in pairs_of(report)
    if goal[1] == "raises":
        return goal[1:] == outcome
    return goal[1] == outcome[0]
