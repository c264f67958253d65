"""Summaries of pure units, and runs that use them (points 12, 14, 15, 17, 20, 23, 32 and 33)."""

from metorshut.books import found_book
from metorshut.bounds import BOUNDS, check_bounds
from metorshut.closures import is_pure
from metorshut.errors import BadInput, CutShort, NotPure
from metorshut.runs import Machine
from metorshut.stepping import args_at, give_back, raise_at_call, step
from metorshut.tables import least_in
from metorshut.values import value_of


def summary_of(program, unit, bounds=BOUNDS):
    """The summary of a unit."""
    check_bounds(bounds)
    if not is_pure(program, unit):
        raise NotPure(unit)
    finder = found_book(program, unit, bounds)
    cuts = [(least_in(end.mask), end.log.ending[1]) for end in finder.ends if end.log.ending[0] == "cut"]
    if cuts:
        _, bound = min(cuts)
        raise CutShort(bound)
    cases = [_case_of(finder.course.sheet, end) for end in finder.ends]
    return "summary", finder.course.widths, finder.course.sheet.nodes, tuple(cases)


def _case_of(sheet, end):
    """The case of an end of a book."""
    log = end.log
    condition = sheet.word(1, 1)
    for term in end.conditions:
        condition = sheet.make("&", 1, condition, term)
    return condition, tuple(log.ways), tuple(sorted(log.met)), log.steps, log.deepest, log.ending


def run_with(program, unit, args, answers, summaries, bounds=BOUNDS):
    """The report of a run that uses the cases of summaries in the place of calls."""
    held = Machine(program).start(unit, args, bounds)
    table = {name: summary for name, summary in summaries}
    _go_on(held.plans, held.stand, table)
    for word in answers:
        if not held.lets():
            raise BadInput("answers")
        held.answer(word)
        _go_on(held.plans, held.stand, table)
    return held.report


def _go_on(plans, stand, table):
    """Go on until the run waits or ends."""
    while stand.goes_on():
        row = plans.row_at(stand.frames[-1])
        if row[0] != "call" or row[2] not in table or not _use(plans, stand, row[2], table[row[2]]):
            step(plans, stand)
    stand.news.clear()


def _use(plans, stand, name, summary):
    """Use the case of a summary for the call at which a run stands; whether it fits within the bounds."""
    _, _, rows, cases = summary
    words = tuple([word for _, word in args_at(plans, stand)])
    case = _case_for(rows, cases, words)
    log = stand.log
    # The call itself is a step, too.
    if log.steps + 1 + case[3] > log.bounds[0] or len(stand.frames) + case[4] > log.bounds[1]:
        return False
    _, ways, met, steps, _, outcome = case
    for other in met:
        log.meet(other)
    log.ways.extend(ways)
    log.steps += 1 + steps
    if outcome[0] == "returns":
        give_back(plans, stand, (plans.declarations[name][3], value_of(rows, words, outcome[1])))
    elif outcome[0] == "raises":
        raise_at_call(plans, stand, outcome[1])
    else:
        log.end(outcome)
    return True


def _case_for(rows, cases, words):
    """The case for these arguments."""
    for case in cases:
        if value_of(rows, words, case[0]) == 1:
            return case
    return None
