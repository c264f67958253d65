"""Whether inputs part programs (points 14, 42 and 44)."""

from metorshut.mutating import mutants_of
from metorshut.programs import with_declaration
from metorshut.runs import Machine


def is_parted(first, second, unit, tried, bounds):
    """Whether the walk of two machines with an input is parted at some time; raises BadInput for the args."""
    args, answers = tried
    run, other = first.start(unit, args, bounds), second.start(unit, args, bounds)
    outcome, other_outcome = run.go(), other.go()
    for word in answers:
        # Where they do not ask the same, the walk has ended.
        if outcome != other_outcome or word not in run.lets() or word not in other.lets():
            break
        run.answer(word)
        other.answer(word)
        outcome, other_outcome = run.go(), other.go()
    return outcome != other_outcome and outcome[0] != "cut" and other_outcome[0] != "cut"


def parted_rows(program, entry, suite, bounds):
    """The matrix of a suite of mutants: for each different input that it tells as met the numbers of its goals."""
    inputs = sorted(set([answer[1] for _, answer in suite if answer[0] == "met"]))
    rows = [[] for _ in inputs]
    machine = Machine(program)
    mutants = {}
    for number, (goal, answer) in enumerate(suite):
        if answer[0] != "met":
            # Nothing parts the program from this one.
            continue
        _, name, place = goal
        if name not in mutants:
            mutants[name] = mutants_of(program, name)
        other = Machine(with_declaration(program, mutants[name][place]))
        for at, tried in enumerate(inputs):
            if is_parted(machine, other, entry, tried, bounds):
                rows[at].append(number)
    return tuple([(tried, tuple(row)) for tried, row in zip(inputs, rows)])
