"""One step of a run from a row of a graph to the next one (points 12 to 18 and 21)."""

from metorshut.frames import first_cells
from metorshut.stands import RowFrame


def step(plans, stand):
    """Go on by one row."""
    frame = stand.frames[-1]
    row = plans.row_at(frame)
    act = ACTS[row[0]]
    act(plans, stand, frame, row)
    if stand.log.waits():
        _, external, words = stand.log.ending
        stand.news.append(("ask", external, words))
    elif not stand.goes_on():
        stand.news.append(stand.log.ending)


def take_answer(plans, stand, word):
    """Go on behind an ask with an answer; raises BadInput if it is not let."""
    external = plans.declarations[stand.log.ending[1]]
    stand.log.answer(external, word)
    give_back(plans, stand, (external[3], word))


def args_at(plans, stand):
    """The worths of the args of the row at which a call stands."""
    frame = stand.frames[-1]
    return [plans.reckoner.worth(arg, frame.cells, stand.log.objects) for arg in plans.row_at(frame)[3]]


def give_back(plans, stand, found):
    """Go on behind the row at which a call stands with the worth that it called or asked for."""
    frame = stand.frames[-1]
    row = plans.row_at(frame)
    if row[1] is not None:
        frame.cells[row[1]] = found
    frame.row = row[4]


def _go(plans, stand, frame, row):
    frame.row = row[1]


def _let(plans, stand, frame, row):
    _, place, expr, after = row
    objects = stand.log.objects
    found = plans.reckoner.worth(expr, frame.cells, objects)
    plans.reckoner.store(frame.cells, place, found, objects)
    frame.row = after


def _make(plans, stand, frame, row):
    _, name, record, after = row
    stand.log.meet(record)
    found = stand.log.make(plans.declarations[record], plans.reckoner)
    if found is not None:
        stand.news.append(("make", record))
        frame.cells[name] = found
        frame.row = after


def _look(plans, stand, frame, row):
    _, number, condition, yes, no = row
    bit = plans.reckoner.condition(condition, frame.cells, stand.log.objects)
    if stand.log.decide(frame.name, number, bit):
        stand.news.append((frame.name, number, bit))
        turn(plans, stand, yes if bit == 1 else no)


def _loop(plans, stand, frame, row):
    if not stand.log.comes_again(frame, row[1]):
        frame.row = row[2]


def _call(plans, stand, frame, row):
    name = row[2]
    stand.log.meet(name)
    if stand.log.begin_call(len(stand.frames)):
        stand.news.append(("call", name))
        cells = first_cells(plans.declarations[name], args_at(plans, stand), plans.reckoner)
        stand.frames.append(RowFrame(name, cells, 0))


def _ask(plans, stand, frame, row):
    name = row[2]
    stand.log.meet(name)
    words = tuple([found[1] for found in args_at(plans, stand)])
    bit = stand.log.ask(plans.declarations[name], words)
    if bit is not None:
        stand.news.append((name, 0, bit))
    if bit == 0:
        turn(plans, stand, row[5])


def _return(plans, stand, frame, row):
    if row[1] is None:
        found = plans.reckoner.blank(plans.declarations[frame.name][3])
    else:
        found = plans.reckoner.worth(row[1], frame.cells, stand.log.objects)
    if len(stand.frames) == 1:
        stand.log.end(("returns", found[1]))
        return
    stand.frames.pop()
    stand.news.append(("back", frame.name))
    give_back(plans, stand, found)


def _raise(plans, stand, frame, row):
    _leave(plans, stand, row[1])


def turn(plans, stand, to):
    """Go on at a row, or raise a name out of the function."""
    if isinstance(to, str):
        _leave(plans, stand, to)
    else:
        frame = stand.frames[-1]
        frame.row = to


def _leave(plans, stand, name):
    """Raise a name out of the function, and out of others, until one stands at a row that catches it."""
    if len(stand.frames) > 1:
        stand.news.append(("back", stand.frames.pop().name))
        raise_at_call(plans, stand, name)
    else:
        stand.log.end(("raises", name))


def raise_at_call(plans, stand, name):
    """Raise a name out of the call row at which a call stands."""
    frame = stand.frames[-1]
    for caught, at in plans.row_at(frame)[5]:
        if caught == name:
            frame.row = at
            return
    _leave(plans, stand, name)


ACTS = {
    "go": _go,
    "let": _let,
    "make": _make,
    "look": _look,
    "loop": _loop,
    "call": _call,
    "ask": _ask,
    "return": _return,
    "raise": _raise,
}
