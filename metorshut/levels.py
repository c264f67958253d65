"""How tight the operators of exprs are (point 6)."""

LEVELS = {
    "|": 1, "^": 2, "&": 3,
    "==": 4, "!=": 4, "<": 4, "<=": 4,
    "<<": 5, ">>": 5, "+": 6, "-": 6, "*": 7,
}
COMPARISON = 4
IN_FRONT = 8
BOTTOM = 9
SIGNS_IN_FRONT = {"not": "~", "neg": "-"}


def level_of(op):
    """The level of an expr with this first word."""
    if op in SIGNS_IN_FRONT:
        return IN_FRONT
    return LEVELS.get(op, BOTTOM)
