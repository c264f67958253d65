"""Texts read, checked and edited, with suites that are kept (points 2, 7, 8, 36 to 38, 45, 47 and 55)."""

from metorshut.bounds import BOUNDS, check_bounds
from metorshut.check import check
from metorshut.keepers import Keeper
from metorshut.programs import entries_of
from metorshut.reading import read_program
from metorshut.writing import write_program

COUNTED = ("met", "shut", "open")


class Maker:
    """Keeps the suites and tests of a text while it is edited by texts."""

    def __init__(self, text, kind="ways", *, bounds=BOUNDS):
        check_bounds(bounds)
        program = read_program(text)
        check(program)
        self.keeper = Keeper(program, kind, bounds=bounds)

    @classmethod
    def of(cls, program, kind="ways", *, bounds=BOUNDS):
        """The maker of the text of a program."""
        return cls(write_program(program), kind, bounds=bounds)

    def text(self):
        """The text of the program as it is."""
        return write_program(self.keeper.edition)

    def table(self):
        """The report: for each entry the numbers of goals that are met, shut and open, and the tests."""
        return tuple([self.row_of(entry) for entry in entries_of(self.keeper.edition)])

    def row_of(self, entry):
        """What the report tells of an entry."""
        words = [answer[0] for _, answer in self.suite(entry)]
        return (entry,) + tuple([words.count(word) for word in COUNTED]) + (self.tests(entry),)

    def put(self, text):
        """Put each declaration of a text; the entries that were worked out."""
        return self.done(tuple([("put", one) for one in read_program(text)]))

    def drop(self, *names):
        """Drop declarations; the entries that were worked out."""
        return self.done(tuple([("drop", name) for name in names]))

    def rename(self, old, new):
        """Give a declaration another name; the entries that were worked out."""
        return self.done((("name", old, new),))

    def done(self, batch):
        """Do a batch; the entries that were worked out."""
        self.keeper.edit(batch)
        return self.keeper.worked

    def undo(self):
        """Go back by one batch; the entries that were worked out: none."""
        self.keeper.undo()
        return self.keeper.worked

    def redo(self):
        """Go forward by one batch; the entries that were worked out: none."""
        self.keeper.redo()
        return self.keeper.worked

    def suite(self, entry):
        """The suite that is kept for an entry."""
        return self.keeper.suite(entry)

    def tests(self, entry):
        """The tests of the suite that is kept for an entry."""
        return self.keeper.tests(entry)
