"""Suites that are kept while a program is edited (points 36 to 38 and 45 to 47)."""

from metorshut.bounds import BOUNDS, check_bounds
from metorshut.edits import edited, texts_in
from metorshut.errors import NoEdition
from metorshut.findings import findings_of
from metorshut.goals import goals_of
from metorshut.programs import entries_of


class Edition:
    """A program with what has been worked out of each entry, and with its suites."""

    def __init__(self, program, findings, suites):
        self.program = program
        self.findings = findings
        self.suites = suites


class History:
    """The edition as it is, those to which one can go back and forward, and the entries that were worked out last."""

    def __init__(self, now, elder, newer, fresh):
        self.now = now
        self.elder = elder
        self.newer = newer
        self.fresh = fresh


class Keeper:
    """Keeps the suites of all entries of a program through batches of edits."""

    def __init__(self, program, kind="ways", *, bounds=BOUNDS):
        check_bounds(bounds)
        self.kind = kind
        self.bounds = bounds
        now, fresh = self.worked_out(program, {})
        self.history = History(now, (), (), fresh)

    def worked_out(self, program, kept):
        """The edition of a program, and the entries that were worked out for it; kept are findings of the elder one."""
        texts = texts_in(program)
        findings = {}
        fresh = []
        for entry in entries_of(program):
            if entry in kept and _stands(kept[entry].printed(), texts):
                findings[entry] = kept[entry]
            else:
                findings[entry] = findings_of(program, entry, self.kind, self.bounds)
                fresh.append(entry)
        # All goals are listed ahead of the first suite, as there may be too many of them.
        goals = {entry: goals_of(program, entry, self.kind) for entry in findings}
        suites = {entry: found.suite(goals[entry]) for entry, found in findings.items()}
        return Edition(program, findings, suites), tuple(fresh)

    @property
    def edition(self):
        """The program as it is."""
        return self.history.now.program

    @property
    def worked(self):
        """The entries that were worked out last."""
        return self.history.fresh

    def suite(self, entry):
        """The suite that is kept for an entry."""
        return self.history.now.suites[entry]

    def tests(self, entry):
        """The tests of the suite that is kept for an entry."""
        return self.history.now.findings[entry].tests(self.suite(entry))

    def printed(self, entry):
        """The print that is kept for an entry."""
        return self.history.now.findings[entry].printed()

    def edit(self, batch):
        """Do a batch."""
        history = self.history
        program = edited(history.now.program, batch)
        now, fresh = self.worked_out(program, history.now.findings)
        self.history = History(now, history.elder + (history.now,), (), fresh)

    def undo(self):
        """Go back to the edition ahead of the last batch that is done."""
        history = self.history
        if not history.elder:
            raise NoEdition()
        self.history = History(history.elder[-1], history.elder[:-1], (history.now,) + history.newer, ())

    def redo(self):
        """Go forward to the edition that was undone last."""
        history = self.history
        if not history.newer:
            raise NoEdition()
        self.history = History(history.newer[0], history.elder + (history.now,), history.newer[1:], ())

    def attempt(self):
        """For `with keeper.attempt() as held:`; if an error leaves the block, the keeper is as it was ahead of it."""
        return Attempt(self)

    def attempted(self, *batches):
        """Do batches in one attempt; the entries that were worked out in it, ascending."""
        found = []
        with self.attempt() as held:
            for batch in batches:
                held.edit(batch)
                found.extend(held.worked)
        return tuple(sorted(set(found)))


class Attempt:
    """Keeps where a keeper stands while a block tries something with it."""

    def __init__(self, held):
        self.held = held
        self.kept = None

    def __enter__(self):
        self.kept = self.held.history
        return self.held

    def __exit__(self, kind, value, trace):
        held = self.held
        if kind is not None:
            held.history = self.kept


def _stands(pairs, texts):
    """Whether all names of a print have the same texts still."""
    return all([texts.get(name) == text for name, text in pairs])
