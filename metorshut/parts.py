"""The parts of functions: statements, their exprs, and their looks (points 7 and 12)."""


def blocks_of(statement):
    """The blocks of a statement, in order."""
    word = statement[0]
    if word == "if":
        return statement[2], statement[3]
    if word == "while":
        return (statement[2],)
    if word == "try":
        return (statement[1],) + tuple([body for _, body in statement[2]])
    return ()


def statements_in(body):
    """All statements of a body and its blocks, in the order of the text."""
    found = []
    _put_statements(found, body)
    return found


def _put_statements(found, body):
    for statement in body:
        found.append(statement)
        for block in blocks_of(statement):
            _put_statements(found, block)


def lengths_of(function):
    """For each array of a function its length."""
    return {place[0]: place[2] for place in function[5] if len(place) == 3}


def looks_at(statement, lengths):
    """The looks of a statement, without those of its blocks.

    Each is a pair of its condition and the name that way 0 raises, or None.
    """
    looks = []
    word = statement[0]
    if word == "let":
        _put_looks(looks, statement[1], lengths)
        _put_looks(looks, statement[2], lengths)
    elif word == "call":
        for arg in statement[3]:
            _put_looks(looks, arg, lengths)
    elif word in ("if", "while", "assert", "return"):
        _put_looks(looks, statement[1], lengths)
        if word != "return":
            looks.append((("is", statement[1]), "claim" if word == "assert" else None))
    return looks


def _put_looks(looks, expr, lengths):
    op = expr[0]
    if op == "item":
        _put_looks(looks, expr[2], lengths)
        looks.append((("below", expr[2], lengths[expr[1]]), "index"))
    elif op == "field":
        looks.append((("there", expr[1]), "nothing"))
    elif op == "wide":
        _put_looks(looks, expr[1], lengths)
    elif op not in ("name", "word", "null"):
        for part in expr[1:]:
            _put_looks(looks, part, lengths)
        if op in ("div", "rem"):
            looks.append((("some", expr[2]), "zero"))
