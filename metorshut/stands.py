"""Where runs by the graphs stand (points 18 and 21)."""

from metorshut.frames import Frame
from metorshut.graphs import graph_of


class Plans:
    """The declarations of a program, the rows of the functions that were called so far, and what reckons in runs."""

    def __init__(self, program, reckoner):
        self.program = program
        self.reckoner = reckoner
        self.declarations = {one[1]: one for one in program}
        self.graphs = {}

    def rows_of(self, name):
        """The rows of a function's graph."""
        if name not in self.graphs:
            self.graphs[name] = graph_of(self.program, name)[1]
        return self.graphs[name]

    def row_at(self, frame):
        """The row at which a call stands."""
        return self.rows_of(frame.name)[frame.row]


class RowFrame(Frame):
    """A call that stands at a row."""

    def __init__(self, name, cells, row):
        super().__init__(name, cells)
        self.row = row

    def copied(self):
        """Another frame that stands where this one does."""
        other = RowFrame(self.name, dict(self.cells), self.row)
        other.visits = dict(self.visits)
        return other


class Stand:
    """What a run has done, the calls that have begun and not ended, and the events that are not told yet."""

    def __init__(self, log, frames):
        self.log = log
        self.frames = frames
        self.news = []

    def copied(self):
        """Another stand with no part in common with this one."""
        other = Stand(self.log.copied(), [frame.copied() for frame in self.frames])
        other.news = list(self.news)
        return other

    def goes_on(self):
        """Whether the run neither waits nor has ended."""
        return self.log.ending is None

    def outcome_told(self):
        """The outcome if the run waits or has ended, and all events are told; otherwise None."""
        return None if self.news else self.log.ending
