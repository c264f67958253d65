"""The calls of runs (points 11 and 16)."""

from metorshut.errors import BadInput, TooWide
from metorshut.words import is_word


class Frame:
    """A call that has begun and not ended: its variables, and how all stood each time when it came to a loop."""

    def __init__(self, name, cells):
        self.name = name
        self.cells = cells
        self.visits = {}

    def note_visit(self, number, picture):
        """Note how all stood when the call came to the `while` with this number."""
        self.visits[number] = self.visits.get(number, ()) + (picture,)


def first_cells(function, worths, reckoner):
    """The cells with which a call begins, from the worths of its args."""
    cells = {}
    for (name, _), given in zip(function[2], worths):
        cells[name] = given
    for place in function[5]:
        blank = reckoner.blank(place[1])
        cells[place[0]] = blank if len(place) == 2 else (place[1], (blank[1],) * place[2])
    return cells


def widths_of(function):
    """The widths of the parameters of a unit."""
    return tuple([kind for _, kind in function[2]])


def check_width(function, bounds):
    """None if a unit is not too wide for the bounds; raises TooWide otherwise."""
    if sum(widths_of(function)) > bounds[3]:
        raise TooWide(function[1])


def check_args(function, args):
    """None if these are words for the parameters of a unit; raises BadInput otherwise."""
    widths = widths_of(function)
    if len(args) != len(widths):
        raise BadInput("args")
    for word, width in zip(args, widths):
        if not is_word(word, width):
            raise BadInput("args")


def unit_cells(function, words, reckoner):
    """The cells with which a run of a unit begins."""
    return first_cells(function, list(zip(widths_of(function), words)), reckoner)
