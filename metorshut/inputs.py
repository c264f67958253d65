"""The inputs of units, and what runs show (points 14, 15, 17 and 22)."""

from metorshut.bounds import BOUNDS, check_bounds
from metorshut.frames import check_width, widths_of
from metorshut.programs import declared
from metorshut.runs import Machine
from metorshut.words import all_words


def inputs_of(program, unit, bounds=BOUNDS):
    """Yields the full inputs, ascending."""
    check_bounds(bounds)
    check_width(declared(program, unit), bounds)
    for args, answers, _ in ended_runs(program, unit, bounds):
        yield args, answers


def ended_runs(program, unit, bounds):
    """Yields (args, answers, outcome) for the full inputs, ascending."""
    machine = Machine(program)
    for args in all_words(widths_of(declared(program, unit))):
        waiting = [(machine.start(unit, args, bounds), ())]
        while waiting:
            run, answers = waiting.pop()
            outcome = run.go()
            lets = run.lets()
            for word in reversed(lets):
                other = run.twin()
                other.answer(word)
                waiting.append((other, (*answers, word)))
            if not lets:
                yield args, answers, outcome


def shown_of(report):
    """What a run with this report shows."""
    return report[2], report[3]


def pairs_of(report):
    """The pairs of ways that directly follow each other, each once, where it first stands."""
    ways = report[1]
    found = {}
    for pair in zip(ways, ways[1:]):
        found[pair] = True
    return tuple(found)
