"""Runs by the graphs (points 11 to 18, 21 and 22)."""

from metorshut.bounds import BOUNDS, check_bounds
from metorshut.errors import BadInput, NotAsked
from metorshut.evaluation import Words
from metorshut.frames import check_args, check_width, unit_cells, widths_of
from metorshut.logs import Log
from metorshut.stands import Plans, RowFrame, Stand
from metorshut.stepping import step, take_answer


class Machine:
    """Runs a program by its graphs."""

    def __init__(self, program):
        self.plans = Plans(program, Words())

    def run(self, unit, args, answers, bounds=BOUNDS):
        """The report of a run."""
        held = self.start(unit, args, bounds)
        held.go()
        for word in answers:
            if not held.stand.log.waits():
                raise BadInput("answers")
            held.answer(word)
            held.go()
        return held.report

    def start(self, unit, args, bounds=BOUNDS):
        """A run that has not begun to go."""
        check_bounds(bounds)
        function = self.plans.declarations[unit]
        check_width(function, bounds)
        check_args(function, args)
        frame = RowFrame(unit, unit_cells(function, args, self.plans.reckoner), 0)
        return Run(self.plans, Stand(Log(unit, sum(widths_of(function)), bounds), [frame]))


class Run:
    """A run that can be made step by step."""

    def __init__(self, plans, stand):
        self.plans = plans
        self.stand = stand

    def events(self):
        """Go on until the run waits or ends; yields each event when it happens."""
        while self.has_news():
            event = self.stand.news.pop(0)
            yield event

    def has_news(self):
        """Go on until there is an event that is not told yet; whether there is one."""
        while not self.stand.news and self.stand.goes_on():
            step(self.plans, self.stand)
        return len(self.stand.news) > 0

    def go(self):
        """Go on until the run waits or ends; the outcome."""
        while self.has_news():
            self.stand.news.clear()
        return self.outcome

    def answer(self, word):
        """Give the answer for which the run waits."""
        if self.stand.news or not self.stand.log.waits():
            raise NotAsked()
        take_answer(self.plans, self.stand, word)

    def lets(self):
        """The answers that are let if the run waits, ascending; otherwise none."""
        log = self.stand.log
        return log.lets(self.plans.declarations[log.ending[1]]) if log.waits() else ()

    @property
    def outcome(self):
        """The outcome if the run waits or has ended, otherwise None."""
        return self.stand.outcome_told()

    @property
    def report(self):
        """The report so far."""
        return self.stand.log.told(self.stand.outcome_told())

    def trial(self):
        """For `with run.trial() as held:`; behind the block the run is where it was ahead of it."""
        return Trial(self)

    def ahead(self, *words):
        """The outcome to which the run comes if it is answered with these words; it stays where it is."""
        other = self.twin()
        other.go()
        for word in words:
            other.answer(word)
            other.go()
        return other.outcome

    def twin(self):
        """Another run that stands where this one does."""
        return Run(self.plans, self.stand.copied())


class Trial:
    """Keeps where a run stands while a block tries something with it."""

    def __init__(self, held):
        self.held = held
        self.kept = None

    def __enter__(self):
        held = self.held
        self.kept = held.stand
        held.stand = self.kept.copied()
        return held

    def __exit__(self, kind, value, trace):
        held = self.held
        held.stand = self.kept
