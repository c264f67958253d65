"""The checker (points 8 to 10)."""

from metorshut.bodycheck import Body
from metorshut.errors import BadNumber, BadUse, BadWidth, TooLarge, TooWide, Twice, Unknown, Unmet
from metorshut.externals import unmet
from metorshut.kinds import is_width, kind_in
from metorshut.parts import statements_in
from metorshut.scopes import fields_of, outer_scope, scope_of

DECLARATIONS = 24
FIELDS = 6
OUTER_PARAMS = 3
OUTER_BITS = 6
ANSWER_WIDTH = 3
PARAMS = 6
PLACES = 10
STATEMENTS = 40
ENTRY_BITS = 8


def check(program):
    """None if the program has no fault; otherwise raises the first one."""
    if len(program) > DECLARATIONS:
        raise TooLarge("program")
    names = {}
    for one in program:
        _add_name(names, one[1])
    table = {one[1]: one for one in program}
    fields = fields_of(program)
    for one in program:
        if one[0] == "record":
            _check_record(table, one)
        elif one[0] == "external":
            _check_external(one)
        else:
            _check_function(table, fields, one)


def _add_name(names, name):
    if name in names:
        raise Twice(name)
    names[name] = True


def _check_kind(table, kind):
    if isinstance(kind, int):
        _check_width(kind)
    elif kind not in table:
        raise Unknown(kind)
    elif table[kind][0] != "record":
        raise BadUse(kind)


def _check_width(width):
    if not is_width(width):
        raise BadNumber(width)


def _bits_of(params):
    return sum([kind for _, kind in params])


def _check_record(table, record):
    _, name, fields = record
    if len(fields) > FIELDS:
        raise TooLarge(name)
    names = {}
    for field, kind in fields:
        _add_name(names, field)
        _check_kind(table, kind)


def _check_external(external):
    _, name, params, width, _, needs, gives = external
    if len(params) > OUTER_PARAMS:
        raise TooLarge(name)
    _check_outer_params(params)
    if not 1 <= width <= ANSWER_WIDTH:
        raise BadNumber(width)
    if _bits_of(params) > OUTER_BITS:
        raise TooWide(name)
    scope = outer_scope(external)
    if kind_in(scope, needs) != 1:
        raise BadWidth("needs")
    scope.kinds["result"] = width
    if kind_in(scope, gives) != 1:
        raise BadWidth("gives")
    words = unmet(external)
    if words is not None:
        raise Unmet(name, words)


def _check_outer_params(params):
    names = {}
    for param, kind in params:
        _add_name(names, param)
        if param == "result":
            raise BadUse(param)
        if isinstance(kind, str):
            raise BadUse(param)
        _check_width(kind)


def _check_function(table, fields, function):
    _, name, params, kind, entry, places, body = function
    if len(params) > PARAMS or len(places) > PLACES or len(statements_in(body)) > STATEMENTS:
        raise TooLarge(name)
    names = {}
    for param, param_kind in params:
        _add_name(names, param)
        _check_kind(table, param_kind)
        if entry == 1 and isinstance(param_kind, str):
            raise BadUse(param)
    _check_kind(table, kind)
    if entry == 1:
        _check_entry(function)
    for place in places:
        _add_name(names, place[0])
        _check_kind(table, place[1])
        if len(place) == 3:
            _check_width(place[2])
    Body(table, scope_of(fields, function), kind).check_block(body)


def _check_entry(function):
    _, name, params, kind, _, _, _ = function
    if isinstance(kind, str):
        raise BadUse(name)
    if _bits_of(params) > ENTRY_BITS:
        raise TooWide(name)
