"""Writing exprs and places as tokens (point 7)."""

from metorshut.levels import COMPARISON, IN_FRONT, LEVELS, SIGNS_IN_FRONT, level_of


def put_expr(tokens, expr, least=0):
    """Put the tokens of an expr or a place behind the tokens.

    An expr that is looser than the least level gets parentheses.
    """
    if level_of(expr[0]) >= least:
        _put_bare(tokens, expr)
    else:
        tokens.append("(")
        _put_bare(tokens, expr)
        tokens.append(")")


def put_exprs(tokens, exprs):
    """Put the tokens of exprs, with commas between them."""
    for at, expr in enumerate(exprs):
        if at > 0:
            tokens.append(",")
        put_expr(tokens, expr)


def _put_bare(tokens, expr):
    op = expr[0]
    if op in LEVELS:
        level = LEVELS[op]
        # To the left an operator of the same level goes on, but no comparison does.
        put_expr(tokens, expr[1], level + 1 if level == COMPARISON else level)
        tokens.append(op)
        put_expr(tokens, expr[2], level + 1)
    elif op in SIGNS_IN_FRONT:
        tokens.append(SIGNS_IN_FRONT[op])
        put_expr(tokens, expr[1], IN_FRONT)
    elif op in ("div", "rem", "pick"):
        tokens.extend([op, "("])
        put_exprs(tokens, expr[1:])
        tokens.append(")")
    elif op == "wide":
        tokens.extend(["wide", "("])
        put_expr(tokens, expr[1])
        tokens.extend([",", str(expr[2]), ")"])
    else:
        _put_bottom(tokens, expr)


def _put_bottom(tokens, expr):
    if expr[0] == "word":
        tokens.extend([str(expr[1]), "#", str(expr[2])])
    elif expr[0] == "null":
        tokens.append("null")
    elif expr[0] == "name":
        tokens.append(expr[1])
    elif expr[0] == "item":
        tokens.extend([expr[1], "["])
        put_expr(tokens, expr[2])
        tokens.append("]")
    else:
        tokens.extend([expr[1], ".", expr[2]])
