"""Runs by the tree (points 11 to 17 and 22)."""

from metorshut.bounds import BOUNDS, check_bounds
from metorshut.errors import BadInput
from metorshut.evaluation import Words
from metorshut.frames import Frame, check_args, check_width, first_cells, unit_cells, widths_of
from metorshut.logs import Log
from metorshut.programs import declared
from metorshut.spots import spots_of


def run_tree(program, unit, args, answers, bounds=BOUNDS):
    """The report of a run."""
    check_bounds(bounds)
    function = declared(program, unit)
    check_width(function, bounds)
    check_args(function, args)
    walk = Walk(program, Log(unit, sum(widths_of(function)), bounds), answers)
    walk.begin(function, unit_cells(function, args, walk.words), None)
    walk.go()
    if walk.used < len(answers):
        raise BadInput("answers")
    return walk.log.told(walk.log.ending)


class Task(Frame):
    """A call with the work that is left in it, the last piece first.

    A piece is a pair ("do", spot), or ("caught", spot) where the first block
    of a `try` ends. The value of the call goes to the target of the caller.
    """

    def __init__(self, name, cells, target):
        super().__init__(name, cells)
        self.target = target
        self.work = []

    def put_block(self, spots):
        """Do a block next."""
        for spot in reversed(spots):
            self.work.append(("do", spot))

    def put_catch(self, name):
        """Do next the block that catches the name; whether there is one."""
        while self.work:
            piece, spot = self.work.pop()
            if piece == "caught":
                for (caught, _), block in zip(spot.statement[2], spot.blocks[1:]):
                    if caught == name:
                        self.put_block(block)
                        return True
        return False


class Walk:
    """A run that goes along the statements."""

    def __init__(self, program, log, answers):
        self.program = program
        self.log = log
        self.answers = answers
        self.used = 0
        self.words = Words()
        self.tasks = []

    def begin(self, function, cells, target):
        """Begin a call."""
        task = Task(function[1], cells, target)
        spots, _ = spots_of(function)
        task.put_block(spots)
        self.tasks.append(task)

    def go(self):
        """Go on until the run ends, or no answer is left."""
        while self.log.ending is None:
            task = self.tasks[-1]
            if task.work:
                piece, spot = task.work.pop()
                if piece == "do":
                    self.do(task, spot)
            else:
                self.give_back(self.words.blank(declared(self.program, task.name)[3]))

    def do(self, task, spot):
        """Do a statement."""
        word = spot.statement[0]
        if word == "while" and self.log.comes_again(task, spot.number):
            return
        bit = self.pass_looks(task, spot)
        if bit is None:
            return
        if word in ("if", "while", "try"):
            self.enter(task, spot, bit)
        elif word == "let":
            _, place, expr = spot.statement
            found = self.words.worth(expr, task.cells, self.log.objects)
            self.words.store(task.cells, place, found, self.log.objects)
        elif word == "make":
            self.make(task, spot.statement)
        elif word == "call":
            self.call(task, spot.statement)
        elif word == "return":
            self.give_back(self.words.worth(spot.statement[1], task.cells, self.log.objects))
        elif word == "raise":
            self.leave(spot.statement[1])

    def pass_looks(self, task, spot):
        """The way of the last look, 1 if there is none; None if the run goes on elsewhere."""
        bit = 1
        for at, (condition, raised) in enumerate(spot.looks):
            bit = self.words.condition(condition, task.cells, self.log.objects)
            if not self.log.decide(task.name, spot.number + at, bit):
                return None
            if bit == 0 and raised is not None:
                self.leave(raised)
                return None
        return bit

    def enter(self, task, spot, bit):
        """Do next the block to which this way leads."""
        word = spot.statement[0]
        if word == "try":
            task.work.append(("caught", spot))
            task.put_block(spot.blocks[0])
        elif word == "if":
            task.put_block(spot.blocks[1 - bit])
        elif bit == 1:
            task.work.append(("do", spot))
            task.put_block(spot.blocks[0])

    def make(self, task, statement):
        """Make an object."""
        _, name, record = statement
        self.log.meet(record)
        found = self.log.make(declared(self.program, record), self.words)
        if found is not None:
            task.cells[name] = found

    def call(self, task, statement):
        """Call a function, or ask an external."""
        _, target, name, args = statement
        self.log.meet(name)
        called = declared(self.program, name)
        worths = [self.words.worth(arg, task.cells, self.log.objects) for arg in args]
        if called[0] == "external":
            self.ask(task, target, called, tuple([word for _, word in worths]))
        elif self.log.begin_call(len(self.tasks)):
            self.begin(called, first_cells(called, worths, self.words), target)

    def ask(self, task, target, external, words):
        """Ask an external, and take the next answer if there is one."""
        if self.log.ask(external, words) == 0:
            self.leave("duty")
        elif self.log.waits() and self.used < len(self.answers):
            answer = self.answers[self.used]
            self.log.answer(external, answer)
            self.used += 1
            if target is not None:
                task.cells[target] = (external[3], answer)

    def give_back(self, found):
        """End a call with a worth."""
        target = self.tasks.pop().target
        if not self.tasks:
            self.log.end(("returns", found[1]))
        elif target is not None:
            self.tasks[-1].cells[target] = found

    def leave(self, name):
        """Raise a name: out of calls, until it is caught."""
        while self.tasks:
            if self.tasks[-1].put_catch(name):
                return
            self.tasks.pop()
        self.log.end(("raises", name))
