"""What several tests use."""

from metorshut.check import check
from metorshut.closures import is_open
from metorshut.errors import MakerError
from metorshut.reading import read_program


def error_of(action, *args):
    """What is raised: the name of the error's class, and its attributes; None if nothing is."""
    try:
        action(*args)
    except MakerError as error:
        return (type(error).__name__, *vars(error).values())
    return None


def read_body(text, head="entry function f ( ) : 8"):
    """The body of a function whose statements have this text."""
    return read_program(head + " { " + text + " }")[0][6]


def read_expr(text):
    """The tree of an expr."""
    return read_body("return " + text + " ;")[0][1]


def name(n):
    return ("name", n)


def word(value, width):
    return ("word", value, width)


def program_of(text):
    """The program of a text, which the checker lets."""
    program = read_program(text)
    check(program)
    return program


def units_of(program, bounds):
    """The names of the units that are not too wide."""
    return [one[1] for one in program if one[0] == "function" and is_open(program, one[1])
            and sum(kind for _, kind in one[2]) <= bounds[3]]
