"""The parts of the nodes of sheets (point 23)."""


def operands_of(node):
    """The terms of a node's operands."""
    return () if node[0] in ("word", "input") else node[2:]


def cone_of(rows, terms, left_out=()):
    """The numbers of the nodes that are reached from terms by going to operands, ascending.

    Nodes that are left out are not gone through either.
    """
    reached = {}
    waiting = list(terms)
    while waiting:
        at = waiting.pop()
        if at not in reached and at not in left_out:
            reached[at] = True
            waiting.extend(operands_of(rows[at]))
    return sorted(reached)


def reckoning_width(rows, op, width, terms):
    """The width by which the operation of a node of this width is reckoned."""
    return width if op in ("wide", "pick") else rows[terms[0]][1]
