"""Functions made externals (points 8, 33, 52 and 53)."""

from metorshut.bounds import BOUNDS, check_bounds
from metorshut.check import check
from metorshut.closures import is_open, is_pure
from metorshut.errors import MakerError, NotFit, NotTotal
from metorshut.facts import facts_of
from metorshut.programs import declared, with_declaration
from metorshut.promises import names_promised, rows_of_runs

ALWAYS = ("word", 1, 1)


def made_external(program, name, bounds=BOUNDS):
    """The program with an external in the place of a function; the external gives what the function promises."""
    check_bounds(bounds)
    function = declared(program, name)
    if function[4] == 1 or not is_open(program, name) or not _is_let(_external(program, name, ALWAYS)):
        raise NotFit(name)
    returned, failing = rows_of_runs(program, name, bounds)
    if failing:
        raise NotTotal(name, min(failing))
    first, *others = facts_of(names_promised(function), list(returned))
    gives = first
    for fact in others:
        gives = ("&", gives, fact)
    return with_declaration(program, _external(program, name, gives))


def _external(program, name, gives):
    """The external in the place of a function."""
    _, _, params, width, _, _, _ = declared(program, name)
    return "external", name, params, width, 1 if is_pure(program, name) else 0, ALWAYS, gives


def _is_let(external):
    """Whether the checker lets an external by itself."""
    try:
        check((external,))
    except MakerError:
        return False
    return True
