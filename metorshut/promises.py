"""What a unit needs of its arguments, and what it promises (points 22, 51 and 52)."""

from metorshut.bounds import BOUNDS
from metorshut.errors import CutShort
from metorshut.facts import facts_of, holds
from metorshut.inputs import ended_runs
from metorshut.programs import declared


def needs_of(program, unit, bounds=BOUNDS):
    """The pair (facts, against) of the arguments with which every run returns."""
    names = declared(program, unit)[2]
    returned, failing = rows_of_runs(program, unit, bounds)
    rows = sorted(set([row[:-1] for row in returned if row[:-1] not in failing]))
    if not rows:
        return None, _least_row(names)
    facts = facts_of(names, rows)
    for args in failing:
        if _all_hold(names, args, facts):
            return facts, args
    return facts, None


def promises_of(program, unit, bounds=BOUNDS):
    """The pair (facts, against) of the arguments and the word that is returned."""
    names = names_promised(declared(program, unit))
    returned, _ = rows_of_runs(program, unit, bounds)
    if not returned:
        return None, _least_row(names)
    facts = facts_of(names, list(returned))
    return facts, _least_beside(names, facts, returned)


def names_promised(function):
    """The names and widths of the parameters, and of what is returned."""
    return function[2] + (("result", function[3]),)


def rows_of_runs(program, unit, bounds):
    """Two dicts: the arguments with the word returned, of all runs that return; the arguments of those that do not.

    Both are ascending by the arguments; raises BadBounds, TooWide and CutShort.
    """
    returned = {}
    failing = {}
    for args, _, outcome in ended_runs(program, unit, bounds):
        if outcome[0] == "cut":
            raise CutShort(outcome[1])
        if outcome[0] == "returns":
            row = (*args, outcome[1])
            returned[row] = True
        else:
            failing[args] = True
    return returned, failing


def _least_row(names):
    return (0,) * len(names)


def _all_hold(names, row, facts):
    for fact in facts:
        if not holds(names, row, fact):
            return False
    return True


def _least_beside(names, facts, rows):
    """The least row for which all facts hold, and that is none of these; None if there is none."""
    # The facts that can be told from so many words, and from no fewer.
    told = [[] for _ in names]
    for fact in facts:
        told[max([at for at, (name, _) in enumerate(names) if _tells_of(fact, name)])].append(fact)
    waiting = [()]
    while waiting:
        row = waiting.pop()
        at = len(row)
        if at == len(names):
            if row not in rows:
                return row
        else:
            longer = [(*row, word) for word in range((1 << names[at][1]) - 1, -1, -1)]
            waiting.extend([one for one in longer if _all_hold(names, one, told[at])])
    return None


def _tells_of(fact, name):
    """Whether a name stands in a fact."""
    if fact == ("name", name):
        return True
    return any([_tells_of(part, name) for part in fact if isinstance(part, tuple)])
