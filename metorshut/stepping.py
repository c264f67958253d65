"""One step of a run from a row of a graph to the next one (points 12 to 18 and 21)."""

from metorshut.evaluation import blank, holds, worth
from metorshut.frames import first_cells
from metorshut.stands import RowFrame


def step(plans, stand):
    """Go on by one row."""
    frame = stand.frames[-1]
    row = plans.row_at(frame)
    act = ACTS[row[0]]
    act(plans, stand, frame, row)
    if stand.log.waits():
        _, external, words = stand.log.ending
        stand.news.append(("ask", external, words))
    elif not stand.goes_on():
        stand.news.append(stand.log.ending)


def take_answer(plans, stand, word):
    """Go on behind an ask with an answer; raises BadInput if it is not let."""
    frame = stand.frames[-1]
    _, target, name, _, after, _ = plans.row_at(frame)
    external = plans.table[name]
    stand.log.answer(external, word)
    if target is not None:
        frame.cells[target] = (external[3], word)
    frame.row = after


def _go(plans, stand, frame, row):
    frame.row = row[1]


def _let(plans, stand, frame, row):
    _, place, expr, after = row
    objects = stand.log.objects
    frame.store(place, worth(expr, frame.cells, objects), objects)
    frame.row = after


def _make(plans, stand, frame, row):
    _, name, record, after = row
    stand.log.meet(record)
    found = stand.log.make(plans.table[record])
    if found is not None:
        stand.news.append(("make", record))
        frame.cells[name] = found
        frame.row = after


def _look(plans, stand, frame, row):
    _, number, condition, yes, no = row
    bit = 1 if holds(condition, frame.cells, stand.log.objects) else 0
    if stand.log.decide(frame.name, number, bit):
        stand.news.append((frame.name, number, bit))
        _turn(plans, stand, frame, yes if bit == 1 else no)


def _loop(plans, stand, frame, row):
    if not stand.log.comes_again(frame, row[1]):
        frame.row = row[2]


def _call(plans, stand, frame, row):
    name = row[2]
    stand.log.meet(name)
    if stand.log.begin_call(len(stand.frames)):
        stand.news.append(("call", name))
        worths = [worth(arg, frame.cells, stand.log.objects) for arg in row[3]]
        stand.frames.append(RowFrame(name, first_cells(plans.table[name], worths), 0))


def _ask(plans, stand, frame, row):
    name = row[2]
    stand.log.meet(name)
    words = tuple([worth(arg, frame.cells, stand.log.objects)[1] for arg in row[3]])
    bit = stand.log.ask(plans.table[name], words)
    if bit is not None:
        stand.news.append((name, 0, bit))
    if bit == 0:
        _turn(plans, stand, frame, row[5])


def _return(plans, stand, frame, row):
    if row[1] is None:
        found = blank(plans.table[frame.name][3])
    else:
        found = worth(row[1], frame.cells, stand.log.objects)
    if len(stand.frames) == 1:
        stand.log.end(("returns", found[1]))
        return
    stand.frames.pop()
    stand.news.append(("back", frame.name))
    caller = stand.frames[-1]
    _, target, _, _, after, _ = plans.row_at(caller)
    if target is not None:
        caller.cells[target] = found
    caller.row = after


def _raise(plans, stand, frame, row):
    _leave(plans, stand, row[1])


def _turn(plans, stand, frame, to):
    """Go on at a row, or raise a name out of the function."""
    if isinstance(to, str):
        _leave(plans, stand, to)
    else:
        frame.row = to


def _leave(plans, stand, name):
    """Raise a name out of calls, until one stands at a row that catches it."""
    while len(stand.frames) > 1:
        stand.news.append(("back", stand.frames.pop().name))
        caller = stand.frames[-1]
        catches = plans.row_at(caller)[5]
        for caught, at in catches:
            if caught == name:
                caller.row = at
                return
    stand.log.end(("raises", name))


ACTS = {
    "go": _go,
    "let": _let,
    "make": _make,
    "look": _look,
    "loop": _loop,
    "call": _call,
    "ask": _ask,
    "return": _return,
    "raise": _raise,
}
