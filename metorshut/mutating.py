"""The mutants of functions (point 41)."""

from metorshut.programs import declared, with_declaration

LEFT_OUT = ("let", "make", "call", "assert", "raise")
TESTING = ("if", "while", "assert")
OTHER_OPS = {
    "+": "-", "-": "+", "*": "+", "&": "|", "|": "&", "^": "|", "<": "<=", "<=": "<", "==": "!=", "!=": "==",
    "<<": ">>", ">>": "<<", "div": "rem", "rem": "div",
}


def mutants_of(program, name):
    """The mutants of a function, as functions."""
    function = declared(program, name)
    return tuple([_with(function, 6, body) for body in _changed_bodies(function[6])])


def with_mutant(program, name, number):
    """The program with a mutant in the place of its function."""
    return with_declaration(program, mutants_of(program, name)[number])


def _with(whole, at, part):
    """A tuple with another part."""
    return whole[:at] + (part,) + whole[at + 1:]


def _changed_bodies(body):
    """The body with each of its changes, in order."""
    found = []
    for at, statement in enumerate(body):
        if statement[0] in LEFT_OUT:
            found.append(body[:at] + body[at + 1:])
        found.extend([_with(body, at, changed) for changed in _changed_statements(statement)])
    return found


def _changed_statements(statement):
    """The statement with each change but that of leaving it out, in order."""
    word = statement[0]
    if word == "call":
        return [_with(statement, 3, args) for args in _changed_parts(statement[3], 0)]
    if word == "let":
        return _changed_parts(statement, 1)
    if word == "try":
        return _changed_tries(statement)
    if word in ("make", "raise"):
        return []
    found = []
    if word in TESTING:
        found.append(_with(statement, 1, ("not", statement[1])))
    found.extend([_with(statement, 1, expr) for expr in _changed_exprs(statement[1])])
    for at in range(2, len(statement)):
        found.extend([_with(statement, at, block) for block in _changed_bodies(statement[at])])
    return found


def _changed_tries(statement):
    _, block, catches = statement
    found = [_with(statement, 1, changed) for changed in _changed_bodies(block)]
    for at, (name, body) in enumerate(catches):
        for changed in _changed_bodies(body):
            found.append(_with(statement, 2, _with(catches, at, (name, changed))))
    return found


def _changed_parts(whole, first):
    """A tuple with each change of the exprs that stand in it from the first one on."""
    found = []
    for at in range(first, len(whole)):
        found.extend([_with(whole, at, expr) for expr in _changed_exprs(whole[at])])
    return found


def _changed_exprs(expr):
    """The expr with each of its changes, its own one first."""
    op = expr[0]
    if op == "word":
        _, value, width = expr
        return [("word", value + 1 & ((1 << width) - 1), width)]
    if op in ("name", "field", "null"):
        return []
    if op == "item":
        return _changed_parts(expr, 2)
    if op == "wide":
        return [_with(expr, 1, inner) for inner in _changed_exprs(expr[1])]
    found = []
    if op == "pick":
        found.append((op, expr[1], expr[3], expr[2]))
    elif op in OTHER_OPS:
        found.append(_with(expr, 0, OTHER_OPS[op]))
    found.extend(_changed_parts(expr, 1))
    return found
