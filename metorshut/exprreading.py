"""Reading exprs and places as trees (points 6 and 7)."""

from metorshut.levels import COMPARISON, LEVELS
from metorshut.tokens import is_number

OPS_IN_FRONT = {"~": "not", "-": "neg"}
OPERANDS = {"div": 2, "rem": 2, "pick": 3}


def read_expr(row):
    """Read an expr from a row of tokens."""
    # Operands and operators that wait for what stands behind them: so long
    # rows of operators need no recursion.
    operands = [_read_signed(row)]
    waiting = []
    while _can_join(waiting, row.seen()):
        op = row.take_any()
        _join(operands, waiting, LEVELS[op])
        waiting.append(op)
        operands.append(_read_signed(row))
    _join(operands, waiting, 0)
    return operands[0]


def _can_join(waiting, token):
    if token not in LEVELS:
        return False
    # Behind a comparison that still waits, another one would stand in its operand.
    return LEVELS[token] != COMPARISON or all([LEVELS[op] != COMPARISON for op in waiting])


def _join(operands, waiting, level):
    while waiting and LEVELS[waiting[-1]] >= level:
        right = operands.pop()
        left = operands.pop()
        operands.append((waiting.pop(), left, right))


def _read_signed(row):
    signs = []
    while row.seen() in OPS_IN_FRONT:
        signs.append(OPS_IN_FRONT[row.take_any()])
    expr = _read_bottom(row)
    for sign in reversed(signs):
        expr = (sign, expr)
    return expr


def _read_bottom(row):
    token = row.seen()
    if row.skip("("):
        expr = read_expr(row)
        row.take(")")
        return expr
    if is_number(token):
        return _read_word(row)
    if row.skip("null"):
        return ("null",)
    if token in OPERANDS:
        return _read_operation(row)
    if row.skip("wide"):
        return _read_wide(row)
    return read_place(row)


def _read_word(row):
    value = row.take_number()
    row.take("#")
    width = row.take_number()
    return "word", value, width


def _read_operation(row):
    op = row.take_any()
    parts = [op]
    row.take("(")
    parts.append(read_expr(row))
    while len(parts) <= OPERANDS[op]:
        row.take(",")
        parts.append(read_expr(row))
    row.take(")")
    return tuple(parts)


def _read_wide(row):
    row.take("(")
    expr = read_expr(row)
    row.take(",")
    width = row.take_number()
    row.take(")")
    return "wide", expr, width


def read_place(row):
    """Read a place from a row of tokens."""
    name = row.take_name()
    if row.skip("["):
        expr = read_expr(row)
        row.take("]")
        return "item", name, expr
    if row.skip("."):
        return "field", name, row.take_name()
    return "name", name
