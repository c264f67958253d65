"""All runs of a unit at once, up to where they part (point 30)."""

from metorshut.externals import outer_cells
from metorshut.frames import unit_cells, widths_of
from metorshut.logs import Log
from metorshut.sheets import Sheet
from metorshut.stands import Plans, RowFrame, Stand
from metorshut.stepping import args_at, give_back, step, turn
from metorshut.termreckoning import Terms


class Course:
    """The runs of a unit within bounds; their words are terms of one sheet, a new one if none is given.

    A run stands as runs by the graphs do. It goes on to the nodes of the tree
    of its book, and there goes the way that it is told to.
    """

    def __init__(self, program, unit, bounds, sheet=None):
        self.unit = unit
        self.bounds = bounds
        self.sheet = Sheet() if sheet is None else sheet
        self.terms = Terms(self.sheet)
        self.plans = Plans(program, self.terms)
        self.widths = widths_of(self.plans.declarations[unit])

    def beginning(self):
        """A run that has not begun to go."""
        args = [self.sheet.unknown(width, number) for number, width in enumerate(self.widths)]
        cells = unit_cells(self.plans.declarations[self.unit], args, self.terms)
        return Stand(Log(self.unit, sum(self.widths), self.bounds), [RowFrame(self.unit, cells, 0)])

    def widths_at(self, stand):
        """The widths of the inputs so far."""
        return self.widths + tuple([self.plans.declarations[name][3] for name, _, _ in stand.log.answered])

    def advance(self, stand):
        """Go on to the next node; its parts but for the trees below it."""
        stand.news.clear()
        while stand.goes_on():
            frame = stand.frames[-1]
            row = self.plans.row_at(frame)
            if row[0] == "loop":
                found = self.come_again(stand, frame, row)
            elif row[0] == "look":
                found = self.come_to_look(stand, frame, row)
            elif row[0] == "ask":
                found = self.come_to_ask(stand, row)
            else:
                step(self.plans, stand)
                found = None
            if found is not None:
                return found
        ending = stand.log.ending
        return ("ask", ending[1], ending[2]) if stand.log.waits() else ("end", ending)

    def come_to_look(self, stand, frame, row):
        """Come to a look; its node, None if the run is cut there."""
        if not stand.log.has_step():
            return None
        term = self.terms.condition(row[2], frame.cells, stand.log.objects)
        return "look", (frame.name, row[1]), term

    def come_to_ask(self, stand, row):
        """Come to the look of an external; its node, None if the run is cut there."""
        external = self.plans.declarations[row[2]]
        stand.log.meet(external[1])
        if not stand.log.has_step():
            return None
        cells = outer_cells(external, self.asked_with(stand))
        return "look", (external[1], 0), self.terms.worth(external[5], cells, ())[1]

    def asked_with(self, stand):
        """The terms with which the external is asked at whose row a run stands."""
        return tuple([term for _, term in args_at(self.plans, stand)])

    def come_again(self, stand, frame, row):
        """Come to a `while`; its node, None if it has none."""
        now = stand.log.picture(frame)
        worths = _worths_in(now)
        found = self.terms.word(1, 0)
        for then in frame.visits.get(row[1], ()):
            if then[0] == now[0] and len(then[1]) == len(now[1]):
                found = self.sheet.make("|", 1, found, self.terms.are_same(_worths_in(then), worths))
        if self.sheet.value_at(found) == 0:
            frame.note_visit(row[1], now)
            frame.row = row[2]
            return None
        return "loop", (frame.name, row[1]), found

    def go_way(self, stand, bit):
        """Go a way of the look or loop at which a run stands."""
        frame = stand.frames[-1]
        row = self.plans.row_at(frame)
        if row[0] == "look":
            stand.log.decide(frame.name, row[1], bit)
            turn(self.plans, stand, row[3] if bit == 1 else row[4])
        elif row[0] == "ask":
            stand.log.decide(row[2], 0, bit)
            if bit == 1:
                stand.log.come_to_wait(self.plans.declarations[row[2]], self.asked_with(stand))
            else:
                turn(self.plans, stand, row[5])
        elif bit == 1:
            stand.log.end(("endless",))
        else:
            frame.note_visit(row[1], stand.log.picture(frame))
            frame.row = row[2]

    def take_answer(self, stand):
        """Go on behind an ask with the next input; the conditions of the answer."""
        log = stand.log
        _, name, args = log.ending
        external = self.plans.declarations[name]
        earlier = [one[1:] for one in log.answered if one[0] == name]
        answer = self.sheet.unknown(external[3], len(self.widths_at(stand)))
        log.take(external, answer)
        give_back(self.plans, stand, (external[3], answer))
        return self.terms.answer_conditions(external, args, answer, earlier)


def _worths_in(picture):
    """The worths of all variables, arrays word by word, and then of all fields."""
    _, fields, variables = picture
    found = []
    for width, part in variables:
        found.extend([(width, term) for term in part] if isinstance(part, tuple) else [(width, part)])
    for one in fields:
        found.extend(one)
    return found
