"""What exprs come to.

A worth is a pair (width, word); a reference has the width 0, and the number
of its object or None in the place of the word. Cells tell the worth of each
variable, and for an array a pair (width, words). Objects are dicts of worths.
"""

from metorshut.words import result

NOTHING = (0, None)


def worth(expr, cells, objects):
    """The worth of an expr all of whose looks go way 1."""
    op = expr[0]
    if op == "name":
        return cells[expr[1]]
    if op == "word":
        return expr[2], expr[1]
    if op == "null":
        return NOTHING
    if op == "item":
        width, words = cells[expr[1]]
        return width, words[worth(expr[2], cells, objects)[1]]
    if op == "field":
        return objects[cells[expr[1]][1]][expr[2]]
    if op == "wide":
        return expr[2], result(op, expr[2], worth(expr[1], cells, objects)[1])
    return _joined_worth(op, [worth(part, cells, objects) for part in expr[1:]])


def _joined_worth(op, parts):
    words = [part[1] for part in parts]
    if op in ("==", "!=", "<", "<="):
        return 1, result(op, parts[0][0], *words)
    # The last operand of a pick has the width of its result; that of a shift has not.
    width = parts[1][0] if op == "pick" else parts[0][0]
    return width, result(op, width, *words)


def holds(condition, cells, objects):
    """Whether the condition of a look holds."""
    word = condition[0]
    if word == "there":
        return cells[condition[1]][1] is not None
    value = worth(condition[1], cells, objects)[1]
    if word == "below":
        return value < condition[2]
    if word == "some":
        return value != 0
    return value == 1


def blank(kind):
    """The worth with which a variable or a field of this kind begins."""
    return (kind, 0) if isinstance(kind, int) else NOTHING
