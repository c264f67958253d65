"""Which batches break a test, and which of them mend it (points 14, 17, 45 and 50)."""

from metorshut.bounds import BOUNDS
from metorshut.check import check
from metorshut.closures import is_open
from metorshut.edits import with_batch
from metorshut.errors import MakerError, TooMany
from metorshut.frames import widths_of
from metorshut.inputs import shown_of
from metorshut.programs import declared
from metorshut.runs import Machine

MOST_BATCHES = 6


def shown_at(program, entry, tried, bounds=BOUNDS):
    """What a program shows at an input, whose answers need not fit."""
    args, answers = tried
    run = Machine(program).start(entry, args, bounds)
    run.go()
    for number, word in enumerate(answers):
        if run.outcome[0] != "asks":
            break
        if word not in run.lets():
            asked, _ = shown_of(run.report)
            return asked, ("refuses", number)
        run.answer(word)
        run.go()
    return shown_of(run.report)


def to_blame(program, batches, entry, tried, bounds=BOUNDS):
    """The lots that are to blame for a test."""
    trials = Trials(program, batches, entry, tried, bounds)
    return trials.least_lots(True)


def to_mend(program, batches, entry, tried, bounds=BOUNDS):
    """The lots that mend a test."""
    trials = Trials(program, batches, entry, tried, bounds)
    return trials.least_lots(False)


class Trials:
    """A test of an elder program, tried behind lots of batches."""

    def __init__(self, program, batches, entry, tried, bounds):
        args, answers = tried
        self.shown = shown_of(Machine(program).run(entry, args, answers, bounds))
        if len(batches) > MOST_BATCHES:
            raise TooMany("batches")
        self.program = program
        self.batches = batches
        self.entry = entry
        self.tried = tried
        self.bounds = bounds

    def least_lots(self, breaking):
        """The lots that break the test, or without which it is not broken, but none that has another such lot in it."""
        found = []
        for lot in _lots(len(self.batches)):
            if not any([_is_within(other, lot) for other in found]):
                done = lot if breaking else tuple([at for at in range(len(self.batches)) if at not in lot])
                if self.breaks(done) == breaking:
                    found.append(lot)
        return tuple(found)

    def breaks(self, lot):
        """Whether a lot breaks the test; None if it is not let."""
        try:
            newer = self.program_behind(lot)
        except MakerError:
            return None
        if not self.has_entry(newer):
            return True
        return shown_at(newer, self.entry, self.tried, self.bounds) != self.shown

    def program_behind(self, lot):
        """The program behind the batches of a lot, which the checker lets."""
        program = self.program
        for number in lot:
            program = with_batch(program, self.batches[number])
        check(program)
        return program

    def has_entry(self, newer):
        """Whether a program has the entry with the same widths."""
        elder, function = declared(self.program, self.entry), declared(newer, self.entry)
        if function is None or function[0] != "function" or not is_open(newer, self.entry):
            return False
        # A unit that is no entry in the elder program can be asked for all the same.
        return function[4] >= elder[4] and widths_of(function) == widths_of(elder)


def _lots(many):
    """All lots of so many batches, by their lengths, those of one length ascending."""
    lots = [()]
    for number in range(many):
        lots = lots + [(*lot, number) for lot in lots]
    ranked = sorted([(len(lot), lot) for lot in lots])
    return [lot for _, lot in ranked]


def _is_within(lot, other):
    return all([number in other for number in lot])
