"""Checking the statements of functions (point 9)."""

from metorshut.errors import BadUse, BadWidth, Twice, Unknown
from metorshut.kinds import fits, kind_in


class Body:
    """What a statement is checked against: all declarations, the variables, and the kind of the result."""

    def __init__(self, table, scope, kind):
        self.declarations = table
        self.scope = scope
        self.kind = kind

    def check_block(self, body):
        """Raise the first fault of a block."""
        for statement in body:
            checker = CHECKERS[statement[0]]
            checker(self, statement)

    def kind_of_expr(self, expr):
        """The kind of an expr; raises what is wrong with it."""
        return kind_in(self.scope, expr)


def _check_let(body, statement):
    kind = body.kind_of_expr(statement[1])
    if not fits(kind, body.kind_of_expr(statement[2])):
        raise BadWidth("let")


def _check_make(body, statement):
    _, name, record = statement
    kind = body.kind_of_expr(("name", name))
    if not isinstance(kind, str):
        raise BadUse(name)
    if record not in body.declarations:
        raise Unknown(record)
    if body.declarations[record][0] != "record":
        raise BadUse(record)
    if kind != record:
        raise BadWidth("make")


def _check_call(body, statement):
    _, target, name, args = statement
    wanted = None if target is None else body.kind_of_expr(("name", target))
    if name not in body.declarations:
        raise Unknown(name)
    called = body.declarations[name]
    if called[0] == "record":
        raise BadUse(name)
    kinds = [body.kind_of_expr(arg) for arg in args]
    if len(kinds) != len(called[2]):
        raise BadWidth("call")
    for kind, (_, param_kind) in zip(kinds, called[2]):
        if not fits(kind, param_kind):
            raise BadWidth("call")
    if wanted is not None and not fits(wanted, called[3]):
        raise BadWidth("call")


def _check_test(body, statement):
    if body.kind_of_expr(statement[1]) != 1:
        raise BadWidth(statement[0])
    for block in statement[2:]:
        body.check_block(block)


def _check_return(body, statement):
    if not fits(body.kind, body.kind_of_expr(statement[1])):
        raise BadWidth("return")


def _check_raise(body, statement):
    """Every name can be raised, so nothing is wrong here."""


def _check_try(body, statement):
    _, block, catches = statement
    body.check_block(block)
    names = {}
    for name, caught in catches:
        if name in names:
            raise Twice(name)
        names[name] = True
        body.check_block(caught)


CHECKERS = {
    "let": _check_let,
    "make": _check_make,
    "call": _check_call,
    "if": _check_test,
    "while": _check_test,
    "return": _check_return,
    "raise": _check_raise,
    "try": _check_try,
    "assert": _check_test,
}
