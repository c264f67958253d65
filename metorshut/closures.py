"""The looks and the closures of functions (points 12, 13, 20 and 33)."""

from metorshut.parts import lengths_of, looks_at, statements_in
from metorshut.programs import declared


def looks_of(program, name):
    """For each look of a function or external the name that its way 0 raises, or None."""
    declaration = declared(program, name)
    if declaration[0] == "external":
        return ("duty",)
    lengths = lengths_of(declaration)
    found = []
    for statement in statements_in(declaration[6]):
        found.extend([raised for _, raised in looks_at(statement, lengths)])
    return tuple(found)


def closure_of(program, name):
    """The names that a function can meet by its text, in the order of the program."""
    met = {name: True}
    waiting = [name]
    while waiting:
        declaration = declared(program, waiting.pop())
        for other in _named_in(declaration):
            if other not in met:
                met[other] = True
                waiting.append(other)
    return tuple([one[1] for one in program if one[1] in met])


def _named_in(declaration):
    if declaration[0] != "function":
        return []
    return [one[2] for one in statements_in(declaration[6]) if one[0] in ("call", "make")]


def is_open(program, name):
    """Whether no parameter of a function and not its result is a record's."""
    function = declared(program, name)
    return isinstance(function[3], int) and _are_words(function[2])


def is_pure(program, name):
    """Whether all that a function can meet are functions that have words only."""
    for other in closure_of(program, name):
        declaration = declared(program, other)
        if declaration[0] != "function" or not is_open(program, other):
            return False
        if not _are_words(declaration[5]):
            return False
    return True


def _are_words(places):
    return all([isinstance(place[1], int) for place in places])
