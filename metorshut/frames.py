"""The calls of runs (points 11 and 16)."""

from metorshut.errors import BadInput, TooWide
from metorshut.evaluation import blank, worth
from metorshut.words import is_word


class Frame:
    """A call that has begun and not ended: its variables, and how all stood each time when it came to a loop."""

    def __init__(self, name, cells):
        self.name = name
        self.cells = cells
        self.visits = {}

    def store(self, place, found, objects):
        """Store a worth in a place."""
        name = place[1]
        if place[0] == "name":
            self.cells[name] = found
        elif place[0] == "field":
            objects[self.cells[name][1]][place[2]] = found
        else:
            width, words = self.cells[name]
            at = worth(place[2], self.cells, objects)[1]
            self.cells[name] = (width, words[:at] + (found[1],) + words[at + 1:])


def first_cells(function, worths):
    """The cells with which a call begins, from the worths of its args."""
    cells = {}
    for (name, _), given in zip(function[2], worths):
        cells[name] = given
    for place in function[5]:
        if len(place) == 3:
            cells[place[0]] = (place[1], (0,) * place[2])
        else:
            cells[place[0]] = blank(place[1])
    return cells


def bits_of(function):
    """The widths of the parameters of a unit in all."""
    return sum([kind for _, kind in function[2]])


def entry_cells(function, args, bounds):
    """The cells with which a run of a unit begins; raises TooWide and BadInput."""
    if bits_of(function) > bounds[3]:
        raise TooWide(function[1])
    if len(args) != len(function[2]):
        raise BadInput("args")
    for word, (_, width) in zip(args, function[2]):
        if not is_word(word, width):
            raise BadInput("args")
    return first_cells(function, [(width, word) for word, (_, width) in zip(args, function[2])])
