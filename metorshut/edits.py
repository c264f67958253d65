"""Edits of programs (points 7 to 9 and 45)."""

from metorshut.check import check
from metorshut.errors import Twice, Unknown
from metorshut.programs import declared, with_declaration
from metorshut.renaming import renamed
from metorshut.writing import text_of


def edited(program, batch):
    """The program behind a batch, which the checker lets."""
    found = with_batch(program, batch)
    check(found)
    return found


def with_batch(program, batch):
    """The program behind a batch, without a check; raises Unknown and Twice."""
    for edit in batch:
        if edit[0] == "put":
            program = _put(program, edit[1])
        elif declared(program, edit[1]) is None:
            raise Unknown(edit[1])
        elif edit[0] == "drop":
            program = tuple([one for one in program if one[1] != edit[1]])
        else:
            _, old, new = edit
            if declared(program, new) is not None:
                raise Twice(new)
            program = tuple([renamed(one, old, new) for one in program])
    return program


def _put(program, declaration):
    if declared(program, declaration[1]) is None:
        return (*program, declaration)
    return with_declaration(program, declaration)


def touched(program, batch):
    """The names that a batch touches, ascending."""
    return names_changed(program, edited(program, batch))


def names_changed(program, other):
    """The names whose declarations have other texts in another program, or stand in one of both only, ascending."""
    elder, newer = texts_in(program), texts_in(other)
    names = sorted(set([*elder, *newer]))
    return tuple([name for name in names if elder.get(name) != newer.get(name)])


def texts_in(program):
    """For each name the text of its declaration."""
    return {one[1]: text_of(one) for one in program}
