"""Writing trees as texts (point 7)."""

from metorshut.exprwriting import put_expr, put_exprs

LINE_ENDS = ("{", "}", ";")


def write_program(program):
    """The text of a program."""
    tokens = []
    for declaration in program:
        _put_declaration(tokens, declaration)
    parts = []
    for token in tokens:
        parts.append(token)
        parts.append("\n" if token in LINE_ENDS else " ")
    return "".join(parts)


def text_of(declaration):
    """The text of a declaration alone."""
    return write_program((declaration,))


def write_expr(expr):
    """The text of an expr alone, with single blanks between its tokens."""
    tokens = []
    put_expr(tokens, expr)
    return " ".join(tokens)


def _put_declaration(tokens, declaration):
    if declaration[0] == "record":
        _put_record(tokens, declaration)
    elif declaration[0] == "external":
        _put_external(tokens, declaration)
    else:
        _put_function(tokens, declaration)


def _put_record(tokens, record):
    _, name, fields = record
    tokens.extend(["record", name, "{"])
    for field, kind in fields:
        tokens.extend([field, ":", str(kind), ";"])
    tokens.append("}")


def _put_external(tokens, external):
    _, name, params, width, steady, needs, gives = external
    tokens.extend(["external", name])
    _put_params(tokens, params)
    tokens.extend([":", str(width)])
    if steady == 1:
        tokens.append("steady")
    tokens.append("needs")
    put_expr(tokens, needs)
    tokens.append("gives")
    put_expr(tokens, gives)
    tokens.append(";")


def _put_function(tokens, function):
    _, name, params, kind, entry, places, body = function
    if entry == 1:
        tokens.append("entry")
    tokens.extend(["function", name])
    _put_params(tokens, params)
    tokens.extend([":", str(kind), "{"])
    for place in places:
        _put_var(tokens, place)
    _put_statements(tokens, body)
    tokens.append("}")


def _put_params(tokens, params):
    tokens.append("(")
    for at, (name, kind) in enumerate(params):
        if at > 0:
            tokens.append(",")
        tokens.extend([name, ":", str(kind)])
    tokens.append(")")


def _put_var(tokens, place):
    tokens.extend(["var", place[0], ":", str(place[1])])
    if len(place) == 3:
        tokens.extend(["[", str(place[2]), "]"])
    tokens.append(";")


def _put_statements(tokens, body):
    for statement in body:
        putter = PUTTERS[statement[0]]
        putter(tokens, statement)


def _put_block(tokens, body):
    tokens.append("{")
    _put_statements(tokens, body)
    tokens.append("}")


def _put_let(tokens, statement):
    tokens.append("let")
    put_expr(tokens, statement[1])
    tokens.append("=")
    put_expr(tokens, statement[2])
    tokens.append(";")


def _put_make(tokens, statement):
    tokens.extend(["make", statement[1], "=", statement[2], ";"])


def _put_call(tokens, statement):
    _, target, name, args = statement
    tokens.append("call")
    if target is not None:
        tokens.extend([target, "="])
    tokens.extend([name, "("])
    put_exprs(tokens, args)
    tokens.extend([")", ";"])


def _put_if(tokens, statement):
    tokens.append("if")
    put_expr(tokens, statement[1])
    _put_block(tokens, statement[2])
    if statement[3]:
        tokens.append("else")
        _put_block(tokens, statement[3])


def _put_while(tokens, statement):
    tokens.append("while")
    put_expr(tokens, statement[1])
    _put_block(tokens, statement[2])


def _put_raise(tokens, statement):
    tokens.extend(["raise", statement[1], ";"])


def _put_try(tokens, statement):
    tokens.append("try")
    _put_block(tokens, statement[1])
    for name, body in statement[2]:
        tokens.extend(["catch", name])
        _put_block(tokens, body)


def _put_word_and_expr(tokens, statement):
    tokens.append(statement[0])
    put_expr(tokens, statement[1])
    tokens.append(";")


PUTTERS = {
    "let": _put_let,
    "make": _put_make,
    "call": _put_call,
    "if": _put_if,
    "while": _put_while,
    "return": _put_word_and_expr,
    "raise": _put_raise,
    "try": _put_try,
    "assert": _put_word_and_expr,
}
