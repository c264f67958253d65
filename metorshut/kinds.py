"""The kinds of exprs (points 3 and 9)."""

from metorshut.errors import BadNumber, BadUse, BadWidth, Unknown
from metorshut.programs import declared
from metorshut.scopes import NULL, fields_of, scope_of
from metorshut.words import is_word


def kind_of(program, function, expr):
    """The kind of an expr in the body of the function of this name."""
    return kind_in(scope_of(fields_of(program), declared(program, function)), expr)


def kind_in(scope, expr):
    """The kind of an expr or a place in a scope; raises what is wrong with it."""
    op = expr[0]
    if op in scope.barred:
        raise BadUse(op)
    if op == "name":
        return _name_kind(scope, expr[1])
    if op == "item":
        return _item_kind(scope, expr)
    if op == "field":
        return _field_kind(scope, expr)
    if op == "word":
        return _word_kind(expr)
    if op == "null":
        return NULL
    if op == "wide":
        return _wide_kind(scope, expr)
    return _joined_kind(op, [kind_in(scope, part) for part in expr[1:]])


def is_width(kind):
    """Whether a number is a width."""
    return 1 <= kind <= 8


def fits(kind, other):
    """Whether these are words of one width, or references that fit."""
    if isinstance(kind, int) or isinstance(other, int):
        return kind == other
    return kind == other or NULL in (kind, other)


def _name_kind(scope, name):
    if name in scope.arrays:
        raise BadUse(name)
    if name not in scope.kinds:
        raise Unknown(name)
    return scope.kinds[name]


def _item_kind(scope, expr):
    _, name, index = expr
    if name in scope.kinds:
        raise BadUse(name)
    if name not in scope.arrays:
        raise Unknown(name)
    if not isinstance(kind_in(scope, index), int):
        raise BadWidth("[")
    return scope.arrays[name]


def _field_kind(scope, expr):
    _, name, field = expr
    if name not in scope.kinds and name not in scope.arrays:
        raise Unknown(name)
    record = scope.kinds.get(name)
    if not isinstance(record, str):
        raise BadUse(name)
    if field not in scope.fields[record]:
        raise Unknown(field)
    return scope.fields[record][field]


def _word_kind(expr):
    _, value, width = expr
    if not is_width(width):
        raise BadNumber(width)
    if not is_word(value, width):
        raise BadNumber(value)
    return width


def _wide_kind(scope, expr):
    _, inner, width = expr
    kind = kind_in(scope, inner)
    if not is_width(width):
        raise BadNumber(width)
    if not isinstance(kind, int):
        raise BadWidth("wide")
    return width


def _joined_kind(op, kinds):
    if op == "not" or op == "neg":
        return _signed_kind("~" if op == "not" else "-", kinds[0])
    if op == "pick":
        if kinds[0] != 1 or not _are_alike(kinds[1], kinds[2]):
            raise BadWidth(op)
        return kinds[1]
    if op == "==" or op == "!=":
        if not fits(kinds[0], kinds[1]):
            raise BadWidth(op)
        return 1
    if op == "<<" or op == ">>":
        if not isinstance(kinds[0], int) or not isinstance(kinds[1], int):
            raise BadWidth(op)
        return kinds[0]
    if not _are_alike(kinds[0], kinds[1]):
        raise BadWidth(op)
    return 1 if op == "<" or op == "<=" else kinds[0]


def _signed_kind(sign, kind):
    if not isinstance(kind, int):
        raise BadWidth(sign)
    return kind


def _are_alike(kind, other):
    return isinstance(kind, int) and kind == other
