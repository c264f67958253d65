"""Reading texts as trees (points 6 and 7).

Each reader takes a token only if some text goes on behind it, so the first
token that is not taken is the bad one.
"""

from metorshut.exprreading import read_expr, read_place
from metorshut.tokenrows import TokenRow
from metorshut.tokens import is_number, tokens_of


def read_program(text):
    """The program of a text; raises BadText."""
    row = TokenRow(tokens_of(text))
    declarations = [_read_declaration(row)]
    while not row.is_done():
        declarations.append(_read_declaration(row))
    return tuple(declarations)


def _read_declaration(row):
    if row.skip("record"):
        return _read_record(row)
    if row.skip("external"):
        return _read_external(row)
    entry = 1 if row.skip("entry") else 0
    row.take("function")
    return _read_function(row, entry)


def _read_record(row):
    name = row.take_name()
    row.take("{")
    fields = []
    while not row.skip("}"):
        fields.append(_read_named_kind(row))
        row.take(";")
    return "record", name, tuple(fields)


def _read_external(row):
    name = row.take_name()
    params = _read_params(row)
    row.take(":")
    width = row.take_number()
    steady = 1 if row.skip("steady") else 0
    row.take("needs")
    needs = read_expr(row)
    row.take("gives")
    gives = read_expr(row)
    row.take(";")
    return "external", name, params, width, steady, needs, gives


def _read_function(row, entry):
    name = row.take_name()
    params = _read_params(row)
    row.take(":")
    kind = _read_kind(row)
    row.take("{")
    places = []
    while row.skip("var"):
        places.append(_read_var(row))
    body = _read_to_brace(row)
    return "function", name, params, kind, entry, tuple(places), body


def _read_params(row):
    row.take("(")
    if row.skip(")"):
        return ()
    params = [_read_named_kind(row)]
    while row.skip(","):
        params.append(_read_named_kind(row))
    row.take(")")
    return tuple(params)


def _read_named_kind(row):
    name = row.take_name()
    row.take(":")
    kind = _read_kind(row)
    return name, kind


def _read_kind(row):
    if is_number(row.seen()):
        return row.take_number()
    return row.take_name()


def _read_var(row):
    name, kind = _read_named_kind(row)
    if isinstance(kind, int) and row.skip("["):
        length = row.take_number()
        row.take("]")
        row.take(";")
        return name, kind, length
    row.take(";")
    return name, kind


def _read_block(row):
    row.take("{")
    return _read_to_brace(row)


def _read_to_brace(row):
    body = []
    while row.seen() in STATEMENTS:
        reader = STATEMENTS[row.take_any()]
        body.append(reader(row))
    row.take("}")
    return tuple(body)


def _read_let(row):
    place = read_place(row)
    row.take("=")
    expr = _read_last_expr(row)
    return "let", place, expr


def _read_make(row):
    name = row.take_name()
    row.take("=")
    record = row.take_name()
    row.take(";")
    return "make", name, record


def _read_call(row):
    target = None
    name = row.take_name()
    if row.skip("="):
        target = name
        name = row.take_name()
    args = _read_args(row)
    row.take(";")
    return "call", target, name, args


def _read_args(row):
    row.take("(")
    if row.skip(")"):
        return ()
    args = [read_expr(row)]
    while row.skip(","):
        args.append(read_expr(row))
    row.take(")")
    return tuple(args)


def _read_if(row):
    expr = read_expr(row)
    body = _read_block(row)
    other = _read_block(row) if row.skip("else") else ()
    return "if", expr, body, other


def _read_while(row):
    expr = read_expr(row)
    body = _read_block(row)
    return "while", expr, body


def _read_return(row):
    return "return", _read_last_expr(row)


def _read_raise(row):
    name = row.take_name()
    row.take(";")
    return "raise", name


def _read_try(row):
    body = _read_block(row)
    row.take("catch")
    catches = [_read_catch(row)]
    while row.skip("catch"):
        catches.append(_read_catch(row))
    return "try", body, tuple(catches)


def _read_catch(row):
    name = row.take_name()
    body = _read_block(row)
    return name, body


def _read_assert(row):
    return "assert", _read_last_expr(row)


def _read_last_expr(row):
    expr = read_expr(row)
    row.take(";")
    return expr


STATEMENTS = {
    "let": _read_let,
    "make": _read_make,
    "call": _read_call,
    "if": _read_if,
    "while": _read_while,
    "return": _read_return,
    "raise": _read_raise,
    "try": _read_try,
    "assert": _read_assert,
}
